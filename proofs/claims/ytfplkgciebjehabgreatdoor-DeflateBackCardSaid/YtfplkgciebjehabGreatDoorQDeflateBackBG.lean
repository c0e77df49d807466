/- Parts of the proof of DeflateBack. -/
import Derived.Test.YtfplkgciebjehabGreatDoorQDeflateBackBF
import Derived.Test.YtfplkgciebjehabGreatDoorQDeflateBackBE
namespace Go.Proofs.YtfplkgciebjehabGreatDoor.Aw
open Go
set_option linter.defProp false
set_option maxRecDepth 100000
set_option linter.unusedSimpArgs false
set_option linter.unusedVariables false
def Ziw (s:Nat) (l:List Bt):Nat:=(l.flatMap (·.2)).count s
theorem Zl9 {s:Nat}:Ziw s []=0:=rfl
theorem Zix {s:Nat} {a b:List Bt}:Ziw s (a++b)=Ziw s a+Ziw s b:=by simp [Ziw]
theorem Zfh {s:Nat} {x:Bt} {b:List Bt}:Ziw s (x::b)=x.2.count s+Ziw s b:=by simp [Ziw]
theorem ZAm {s:Nat} {A:List Bt} {x:Bt}:Ziw s (Zs2 A x)=Ziw s A+x.2.count s:=by
 have h:=List.takeWhile_append_dropWhile (p:=fun p:Bt=>decide (p.1≤x.1)) (l:=A)
 have h2:=congrArg (Ziw s) h
 rw [Zix] at h2
 rw [Zs2,Zix,Zfh]
 omega
theorem Zqt {s:Nat}:∀ {S A:List Bt},Ziw s (S.foldl Zs2 A)=Ziw s A+Ziw s S
 | [],A=>by simp [Zl9]
 | x::S,A=>by rw [List.foldl_cons,Zqt (S:=S),ZAm,Zfh];omega
theorem Zx7 {s:Nat} {S:List Bt}:Ziw s (Zaw S)=Ziw s S:=by rw [Zaw,Zqt,Zl9];omega
theorem ZDp {S P:List Bt} (hS:Srt S) (hP:Srt P):∀ {t:Nat},t≤S.length+P.length→∃ m p,m≤S.length∧p≤P.length∧m+p=t∧(Zaw (S++P)).take t=Zaw (S.take m++P.take p) ∧
  (∀ x∈S.take m,∀ y∈P.drop p,x.1≤y.1)∧(∀ y∈P.take p,∀ x∈S.drop m,y.1<x.1):=by
 have fin:∀ {m p:Nat},m≤S.length→p≤P.length→(∀ x∈S.take m,∀ y∈P.drop p,x.1≤y.1)→(∀ y∈P.take p,∀ x∈S.drop m,y.1<x.1)→(Zaw (S++P)).take (m+p)=Zaw (S.take m++P.take p):=by
  intro m p hm hp h1 h2
  have hc:=Zo0 (X1:=S.take m) (X2:=S.drop m) (Y1:=P.take p) (Y2:=P.drop p) (by rw [List.take_append_drop];exact hS) (by rw [List.take_append_drop];exact hP) h1 h2
  rw [List.take_append_drop,List.take_append_drop] at hc
  rw [hc,List.take_left']
  rw [Zap,List.length_append,List.length_take,List.length_take]
  omega
 intro t
 induction t with
 | zero=>intro _;exact ⟨0,0,Nat.zero_le _,Nat.zero_le _,rfl,by simp [Zaw],by simp,by simp⟩
 | succ t ih =>
  intro ht
  obtain ⟨m,p,hm,hp,e,-,h1,h2⟩:=ih zO
  have go:(m<S.length∧∀ y∈P.drop p,(S.getD m (0,[])).1≤y.1)∨(p<P.length∧∀ x∈S.drop m,(P.getD p (0,[])).1<x.1):=by
   by_cases cm:m<S.length
   ·by_cases cp:p<P.length
    ·have eS:=List.drop_eq_getElem_cons cm
     have eP:=List.drop_eq_getElem_cons cp
     have sS:Srt (S.drop m):=List.Pairwise.sublist (List.drop_sublist _ _) hS
     have sP:Srt (P.drop p):=List.Pairwise.sublist (List.drop_sublist _ _) hP
     rw [eS] at sS
     rw [eP] at sP
     have sS:=List.pairwise_cons.1 sS
     have sP:=List.pairwise_cons.1 sP
     have gS:S.getD m (0,[])=S[m]:=by simp [List.getD,cm]
     have gP:P.getD p (0,[])=P[p]:=by simp [List.getD,cp]
     rw [gS,gP,eS,eP]
     by_cases c:S[m].1≤P[p].1
     ·refine .inl ⟨cm,fun y hy=>?_⟩
      rcases List.mem_cons.1 hy with rfl | hy
      ·exact c
      ·have:=sP.1 y hy;omega
     ·refine .inr ⟨cp,fun x hx=>?_⟩
      rcases List.mem_cons.1 hx with rfl | hx
      ·omega
      ·have:=sS.1 x hx;omega
    ·refine .inl ⟨cm,fun y hy=>?_⟩
     rw [List.drop_eq_nil_of_le zO] at hy
     simp at hy
   ·refine .inr ⟨by omega,fun x hx=>?_⟩
    rw [List.drop_eq_nil_of_le zO] at hx
    simp at hx
  rcases go with ⟨cm,h⟩ | ⟨cp,h⟩
  ·have h1':∀ x∈S.take (m+1),∀ y∈P.drop p,x.1≤y.1:=by
    intro x hx y hy
    rw [List.take_succ_eq_append_getElem cm,List.mem_append] at hx
    rcases hx with hx | hx
    ·exact h1 x hx y hy
    ·simp only [List.mem_singleton] at hx
     subst hx
     have:=h y hy
     simpa [List.getD,cm] using this
   have h2':∀ y∈P.take p,∀ x∈S.drop (m+1),y.1<x.1:=fun y hy x hx=>h2 y hy x (by
    rw [List.drop_eq_getElem_cons cm];exact List.mem_cons_of_mem _ hx)
   exact ⟨m+1,p,cm,hp,by omega,by rw [show t+1=m+1+p by omega];exact fin cm hp h1' h2',h1',h2'⟩
  ·have h2':∀ y∈P.take (p+1),∀ x∈S.drop m,y.1<x.1:=by
    intro y hy x hx
    rw [List.take_succ_eq_append_getElem cp,List.mem_append] at hy
    rcases hy with hy | hy
    ·exact h2 y hy x hx
    ·simp only [List.mem_singleton] at hy
     subst hy
     have:=h x hx
     simpa [List.getD,cp] using this
   have h1':∀ x∈S.take m,∀ y∈P.drop (p+1),x.1≤y.1:=fun x hx y hy=>h1 x hx y (by
    rw [List.drop_eq_getElem_cons cp];exact List.mem_cons_of_mem _ hy)
   exact ⟨m,p+1,hm,cp,by omega,by rw [show t+1=m+(p+1) by omega];exact fin hm cp h1' h2',h1',h2'⟩
theorem Zh6:∀ (l:List Bt),(prs l).length=l.length / 2
 | []=>rfl
 | [_]=>by simp [prs]
 | p::q::r=>by simp only [prs,List.length_cons,Zh6 r];omega
theorem ZvO:∀ (p:Nat) (l:List Bt),2*p≤l.length→(prs l).take p=prs (l.take (2*p))
 | 0,l,_=>by simp [prs]
 | p+1,[],h=>by simp at h
 | p+1,[_],h=>by simp only [List.length_cons,List.length_nil] at h;omega
 | p+1,x::y::r,h=>by
  rw [show 2*(p+1)=2*p+1+1 by omega,List.take_succ_cons,List.take_succ_cons,prs,prs,List.take_succ_cons,ZvO p r (by simp only [List.length_cons] at h;omega)]
theorem ZvP {s:Nat}:∀ (p:Nat) (l:List Bt),l.length=2*p→Ziw s (prs l)=Ziw s l
 | 0,l,h=>by rw [List.length_eq_zero_iff.1 (by omega:l.length=0)];rfl
 | p+1,[],h=>by simp at h
 | p+1,[_],h=>by simp only [List.length_cons,List.length_nil] at h;omega
 | p+1,x::y::r,h=>by
  rw [prs,Zfh,ZvP p r (by simp only [List.length_cons] at h;omega),Zfh,Zfh,List.count_append]
  omega
theorem Zqu:∀ {l:List Bt} {q:Bt},Srt l→q∈prs l→∃ a∈l,∃ b∈l,a.1≤b.1∧q.1=a.1+b.1
 | [],q,_,h=>by simp [prs] at h
 | [_],q,_,h=>by simp [prs] at h
 | x::y::r,q,hs,h=>by
  have hx:=List.pairwise_cons.1 hs
  have hy:=List.pairwise_cons.1 hx.2
  rw [prs,List.mem_cons] at h
  rcases h with rfl | h
  ·exact ⟨x,by simp,y,by simp,hx.1 y zB,rfl⟩
  ·obtain ⟨a,ha,b,hb,hab,e⟩:=Zqu hy.2 h
   exact ⟨a,by simp [ha],b,by simp [hb],hab,e⟩
theorem ZAn:∀ {l:List Bt},Srt l→Srt (prs l)
 | [],_=>List.Pairwise.nil
 | [_],_=>List.Pairwise.nil
 | x::y::r,hs=>by
  have hx:=List.pairwise_cons.1 hs
  have hy:=List.pairwise_cons.1 hx.2
  rw [prs]
  refine List.pairwise_cons.2 ⟨fun q hq=>?_,ZAn hy.2⟩
  obtain ⟨a,ha,b,hb,-,e⟩:=Zqu hy.2 hq
  have h1:=hx.1 a (by simp [ha])
  have h2:=hy.1 b hb
  simp only
  omega
theorem Zs8:∀ {p:Nat} {l:List Bt} {a:Bt},Srt l→(∀ x∈l,0<x.1)→2*p≤l.length→a∈l.take (2*p)→∃ q∈(prs l).take p,a.1<q.1
 | 0,l,a,_,_,_,h=>by simp at h
 | p+1,[],a,_,_,hl,h=>by simp at hl
 | p+1,[_],a,_,_,hl,h=>by simp only [List.length_cons,List.length_nil] at hl;omega
 | p+1,x::y::r,a,hs,hp,hl,h=>by
  have hx:=List.pairwise_cons.1 hs
  have hy:=List.pairwise_cons.1 hx.2
  have px:=hp x zB
  have py:=hp y zB
  rw [show 2*(p+1)=2*p+1+1 by omega,List.take_succ_cons,List.take_succ_cons] at h
  rw [prs,List.take_succ_cons]
  rcases List.mem_cons.1 h with rfl | h
  ·exact ⟨_,List.mem_cons_self,by simp only;omega⟩
  rcases List.mem_cons.1 h with rfl | h
  ·exact ⟨_,List.mem_cons_self,by simp only;omega⟩
  obtain ⟨q,hq,e⟩:=Zs8 hy.2 (fun x hx=>hp x (by simp [hx])) (by simp only [List.length_cons] at hl;omega) h
  exact ⟨q,List.mem_cons_of_mem _ hq,e⟩
theorem ZAo:∀ {l:List Bt},(∀ x∈l,0<x.1)→∀ x∈prs l,0<x.1
 | [],_,x,h=>by simp [prs] at h
 | [_],_,x,h=>by simp [prs] at h
 | a::b::r,hp,x,h=>by
  rw [prs,List.mem_cons] at h
  rcases h with rfl | h
  ·have:=hp a zB;simp only;omega
  ·exact ZAo (fun x hx=>hp x (by simp [hx])) x h
def lvB (S:List Bt):Nat→List Bt
 | 0=>S
 | k+1=>Zaw (S++prs (lvB S k))
theorem ZD8 {S:List Bt} (hp:∀ x∈S,0<x.1):∀ (k:Nat),∀ x∈lvB S k,0<x.1
 | 0=>hp
 | k+1=>fun x hx=>by
  rw [lvB,ZdD,List.mem_append] at hx
  rcases hx with hx | hx
  ·exact hp x hx
  ·exact ZAo (ZD8 hp k) x hx
theorem ZHw {S:List Bt} (hS:Srt S):∀ (k:Nat),Srt (lvB S k)
 | 0=>hS
 | k+1=>ZcZ _
inductive Ms (S:List Bt):Nat→Nat→List Nat→Prop
 | zero (m:Nat):m≤S.length→Ms S 0 m [m]
 | succ (k m p m':Nat) (ms:List Nat):m≤S.length→m'≤m→Ms S k (2*p) (m'::ms)→Ms S (k+1) (m+p) (m::m'::ms)
theorem ZHx {S:List Bt} {k t m:Nat} {ms l:List Nat} (h:Ms S k t l) (e:l=m::ms):m≤S.length:=by
 cases h with
 | zero m hm=>cases e;exact hm
 | succ k m p m' ms hm _ _=>cases e;exact hm
theorem ZHy {S:List Bt} (hS:Srt S) (hp:∀ x∈S,0<x.1):∀ (k t:Nat),t≤(lvB S k).length →
  ∃ m ms,Ms S k t (m::ms)∧(∀ s,Ziw s ((lvB S k).take t)=((m::ms).map fun m=>Ziw s (S.take m)).sum)∧∀ j,j<m→∃ x∈(lvB S k).take t,x=S.getD j (0,[])
 | 0,t,ht=>⟨t,[],.zero t ht,fun s=>by simp [lvB],fun j hj=>⟨_,by
   rw [lvB,List.mem_take_iff_getElem]
   exact ⟨j,by simp only [lvB] at ht;omega,rfl⟩,by simp [List.getD,show j<S.length by simp only [lvB] at ht;omega]⟩⟩
 | k+1,t,ht=>by
  have hs:=ZHw hS k
  rw [lvB,Zap,List.length_append] at ht
  obtain ⟨m,p,hm,hpp,e,htk,h1,h2⟩:=ZDp hS (ZAn hs) ht
  have hl:=Zh6 (lvB S k)
  have h2p:2*p≤(lvB S k).length:=zO
  obtain ⟨m',ms,hMs,hc,hj⟩:=ZHy hS hp k (2*p) h2p
  have hmm:m'≤m:=by
   by_cases c:m<m'
   ·obtain ⟨x,hx,e⟩:=hj m c
    have hmS:m<S.length:=by
     have:=ZHx hMs rfl
     omega
    obtain ⟨q,hq,hlt⟩:=Zs8 hs (ZD8 hp k) h2p hx
    have h3:=h2 q hq (S.getD m (0,[])) (by rw [List.drop_eq_getElem_cons hmS,List.getD_eq_getElem?_getD,List.getElem?_eq_getElem hmS];exact List.mem_cons_self)
    rw [e] at hlt
    omega
   ·omega
  refine ⟨m,m'::ms,e ▸ .succ k m p m' ms hm hmm hMs,fun s=>?_,fun j hjm=>⟨_,?_,rfl⟩⟩
  ·rw [lvB,htk,Zx7,Zix,ZvO p _ h2p,ZvP p _ (by rw [List.length_take];omega),hc s]
   simp
  ·rw [lvB,htk,ZdD,List.mem_append]
   left
   rw [List.mem_take_iff_getElem]
   exact ⟨j,by omega,by simp [List.getD,show j<S.length by omega]⟩
theorem ZAp {S:List Bt}:∀ (k c:Nat),S.length≤c*2^k→2*S.length-c≤(lvB S k).length
 | 0,c,h=>by simp only [lvB];omega
 | k+1,c,h=>by
  have:=ZAp k (2*c) (by rw [Nat.pow_succ] at h;rw [Nat.mul_comm 2 c,Nat.mul_assoc,Nat.mul_comm 2 (2^k)];exact h)
  rw [lvB,Zap,List.length_append,Zh6]
  omega
theorem ZHz {S:List Bt} {n:Nat} (hn:2≤n):∀ {k t m:Nat} {ms:List Nat},Ms S k t (m::ms)→2*n-2≤t→n≤m:=by
 intro k t m ms h
 generalize hl:m::ms=l at h
 induction h generalizing m ms with
 | zero m0 h0=>cases hl;omega
 | succ k m0 p m' ms0 h1 h2 h3 ih =>
  cases hl
  intro ht
  by_cases c:n≤m0
  ·exact c
  ·have:=ih rfl zO
   omega
def lnM (ms:List Nat) (i:Nat):Nat:=ms.countP fun m=>decide (i<m)
theorem ZAq {ms:List Nat} {i:Nat}:lnM ms i≤ms.length:=List.countP_le_length
theorem ZAr {m:Nat} {ms:List Nat} {i:Nat} (h:i<m):1≤lnM (m::ms) i:=by
 unfold lnM
 rw [List.countP_cons,if_pos (decide_eq_true h)]
 omega
theorem Zs9 {S:List Bt} {k t:Nat} {l:List Nat} (h:Ms S k t l):l.length=k+1:=by
 induction h with
 | zero=>rfl
 | succ k m p m' ms h1 h2 h3 ih=>rw [List.length_cons,ih]
theorem ZFS {S:List Bt} {k t:Nat} {l:List Nat} (h:Ms S k t l):∀ {m:Nat} {ms:List Nat},l=m::ms→∀ i,m≤i→lnM l i=0:=by
 induction h with
 | zero m0 h0 =>
  intro m ms e i hi
  cases e
  simp [lnM];omega
 | succ k m0 p m' ms0 h1 h2 h3 ih =>
  intro m ms e i hi
  cases e
  have:=ih rfl i zO
  unfold lnM at this ⊢
  rw [List.countP_cons,this,if_neg (by simp;omega)]
def ZrQ (n:Nat) (f:Nat→Nat):Nat:=((List.range n).map f).sum
theorem ZjB {n:Nat} {f:Nat→Nat}:ZrQ (n+1) f=ZrQ n f+f n:=by simp [ZrQ,List.range_succ]
theorem Zm2 {n:Nat} {f g:Nat→Nat} (h:∀ i,i<n→f i=g i):ZrQ n f=ZrQ n g:=by
 induction n with
 | zero=>rfl
 | succ n ih=>rw [ZjB,ZjB,ih fun i hi=>h i zO,h n zO]
theorem ZvQ {n c:Nat} {f:Nat→Nat}:ZrQ n (fun i=>c*f i)=c*ZrQ n f:=by
 induction n with
 | zero=>rfl
 | succ n ih=>rw [ZjB,ZjB,ih,Nat.mul_add]
theorem Zo3 {m n c:Nat} {f:Nat→Nat} (hmn:m≤n) (h:∀ i,m≤i→i<n→f i=c):ZrQ n f=ZrQ m f+(n-m)*c:=by
 induction n with
 | zero =>
  obtain rfl:m=0:=zO
  simp
 | succ n ih =>
  by_cases e:m=n+1
  ·subst e;simp
  ·rw [ZjB,ih zO fun i h1 h2=>h i h1 zO,h n zO zO,show n+1-m=(n-m)+1 by omega,Nat.add_mul]
   omega
theorem ZDq {S:List Bt} {k t:Nat} {l:List Nat} (h:Ms S k t l):∀ {m:Nat} {ms:List Nat},l=m::ms→∀ n,m≤n→ZrQ n (fun i=>2^(k+1-lnM l i))+2^k*t=2^(k+1)*n:=by
 induction h with
 | zero m0 h0 =>
  intro m ms e n hn
  cases e
  rw [Zo3 hn (c:=2) fun i h1 _=>by simp [lnM,show ¬ i<m0 by omega]]
  rw [Zm2 (g:=fun _=>1*1) fun i hi=>by simp [lnM,hi]]
  rw [ZvQ]
  have:ZrQ m0 (fun _=>1)=m0:=by
   have:=Zo3 (m:=0) (n:=m0) (c:=1) (f:=fun _=>1) (Nat.zero_le _) fun _ _ _=>rfl
   rw [this];simp [ZrQ]
  rw [this]
  simp only [Nat.zero_add,Nat.pow_zero,Nat.pow_one]
  omega
 | succ k m0 p m' ms0 h1 h2 h3 ih =>
  intro m ms e n hn
  cases e
  have hz:=ZFS (.succ k m0 p m' ms0 h1 h2 h3) rfl
  rw [Zo3 hn (c:=2^(k+1+1)) fun i q _=>by rw [hz i q,Nat.sub_zero]]
  have e1:ZrQ m0 (fun i=>2^(k+1+1-lnM (m0::m'::ms0) i))=ZrQ m0 fun i=>2^(k+1-lnM (m'::ms0) i):=Zm2 fun i hi=>by
   have hL:lnM (m'::ms0) i≤k+1:=by have:=ZAq (ms:=m'::ms0) (i:=i);rw [Zs9 h3] at this;exact this
   have:lnM (m0::m'::ms0) i=lnM (m'::ms0) i+1:=by
    unfold lnM
    rw [List.countP_cons (a:=m0),if_pos (decide_eq_true hi)]
   rw [this,show k+1+1-(lnM (m'::ms0) i+1)=k+1-lnM (m'::ms0) i by omega]
  rw [e1]
  have hi:=ih rfl m0 h2
  have q1:2^(k+1)*(m0+p)=2^(k+1)*m0+2^k*(2*p):=by rw [Nat.mul_add,←Nat.mul_assoc,Nat.pow_succ]
  have q2:2^(k+1+1)*n=2^(k+1+1)*(n-m0)+2^(k+1+1)*m0:=by rw [←Nat.mul_add];congr 1;omega
  have q3:2^(k+1+1)*m0=2^(k+1)*m0+2^(k+1)*m0:=by rw [Nat.pow_succ 2 (k+1),Nat.mul_assoc,Nat.two_mul,Nat.mul_add]
  rw [Nat.mul_comm (n-m0)]
  omega
theorem ZFT {S:List Bt} {k:Nat} {m:Nat} {ms:List Nat} {n:Nat} (hn:2≤n) (h:Ms S k (2*n-2) (m::ms)) (hm:m=n):ZrQ n (fun i=>2^(k+1-lnM (m::ms) i))=2^(k+1):=by
 have hk:=ZDq h rfl n zO
 have e:2^(k+1)*n=2^k*(2*n-2)+2^(k+1):=by
  obtain ⟨j,rfl⟩:∃ j,n=j+1:=⟨n-1,by omega⟩
  rw [show 2*(j+1)-2=2*j by omega,Nat.mul_add,Nat.mul_one,Nat.pow_succ,Nat.mul_assoc]
 omega
def usB (cs:List Nat):List Nat:=(List.range cs.length).filter fun s=>decide (0<cs.getD s 0)
def sgB (cs:List Nat):List Bt:=(usB cs).map fun s=>(cs.getD s 0,[s])
def Zh7 (cs:List Nat) (most:Nat):List Bt:=if (sgB cs).length<2 then sgB cs else (lvB (Zaw (sgB cs)) (most-1)).take (2*(sgB cs).length-2)
def Zc5 (cs:List Nat) (most:Nat):List Nat:=(List.range cs.length).map fun s=>Ziw s (Zh7 cs most)
theorem ZAs {A:List Bt} {x:Bt}:(Zs2 A x).Perm (x::A):=by
 have h:=List.takeWhile_append_dropWhile (p:=fun p:Bt=>decide (p.1≤x.1)) (l:=A)
 have:=List.perm_middle (a:=x) (l₁:=A.takeWhile fun p:Bt=>decide (p.1≤x.1)) (l₂:=A.dropWhile fun p:Bt=>decide (p.1≤x.1))
 rw [h] at this
 exact this
theorem Zqv:∀ {S A:List Bt},(S.foldl Zs2 A).Perm (S++A)
 | [],_=>List.Perm.refl _
 | x::S,A=>by
  rw [List.foldl_cons]
  refine (Zqv (S:=S)).trans ?_
  refine (List.Perm.append_left S ZAs).trans ?_
  exact List.perm_middle
theorem Zx8 {S:List Bt}:(Zaw S).Perm S:=by
 have:=Zqv (S:=S) (A:=[])
 rw [List.append_nil] at this
 exact this
def ysB (cs:List Nat):List Nat:=(Zaw (sgB cs)).map fun b=>b.2.headD 0
theorem ZuT {cs:List Nat}:(ysB cs).Perm (usB cs):=by
 have:=(Zx8 (S:=sgB cs)).map fun b=>b.2.headD 0
 unfold ysB
 refine this.trans ?_
 rw [sgB,List.map_map]
 have e:((fun b:Bt=>b.2.headD 0)∘fun s=>(cs.getD s 0,[s]))=id:=rfl
 rw [e,List.map_id]
theorem ZiV {cs:List Nat} {s:Nat}:s∈usB cs↔s<cs.length∧0<cs.getD s 0:=by simp [usB]
theorem ZAt {cs:List Nat} {s:Nat}:s∈ysB cs↔s<cs.length∧0<cs.getD s 0:=by rw [ZuT.mem_iff,ZiV]
theorem ZDr {cs:List Nat}:(ysB cs).Nodup:=ZuT.nodup_iff.2 (List.nodup_range.sublist List.filter_sublist)
theorem ZHA {cs:List Nat}:Zaw (sgB cs)=(ysB cs).map fun s=>(cs.getD s 0,[s]):=by
 unfold ysB
 rw [List.map_map]
 have:∀ b∈Zaw (sgB cs),((fun s=>(cs.getD s 0,[s]))∘fun b:Bt=>b.2.headD 0) b=b:=by
  intro b hb
  rw [ZdD] at hb
  obtain ⟨s,-,rfl⟩:=List.mem_map.1 hb
  rfl
 rw [List.map_congr_left this,List.map_id']
theorem Zta {cs:List Nat}:(ysB cs).length=(sgB cs).length:=by rw [ysB,List.length_map,Zap]
theorem Zlf {cs:List Nat} {s:Nat}:∀ (l:List Nat),Ziw s (l.map fun s=>(cs.getD s 0,[s]))=l.count s
 | []=>rfl
 | x::l=>by rw [List.map_cons,Zfh,Zlf l,List.count_cons];simp [List.count_cons];omega
theorem ZDs {cs:List Nat} {i m:Nat} (hi:i<(ysB cs).length):Ziw (ysB cs)[i] ((Zaw (sgB cs)).take m)=if i<m then 1 else 0:=by
 rw [ZHA,←List.map_take,Zlf]
 have hn:=ZDr (cs:=cs)
 generalize ysB cs=l at hi hn
 rw [(hn.sublist (List.take_sublist m l)).count]
 have:l[i]∈l.take m↔i<m:=by
  rw [List.mem_take_iff_getElem]
  constructor
  ·rintro ⟨j,hj,e⟩
   have hp:=List.pairwise_iff_getElem.1 hn
   have hj':j<l.length:=zO
   rcases Nat.lt_trichotomy j i with q | q | q
   ·exact absurd e (hp j i hj' hi q)
   ·omega
   ·exact absurd e.symm (hp i j hi hj' q)
  ·intro h
   exact ⟨i,by omega,rfl⟩
 simp only [this]
theorem ZDt {cs:List Nat} {s m:Nat} (hs:s ∉ ysB cs):Ziw s ((Zaw (sgB cs)).take m)=0:=by
 rw [ZHA,←List.map_take,Zlf,List.count_eq_zero]
 exact fun h=>hs (List.mem_of_mem_take h)
theorem ZAu {i:Nat}:∀ (ms:List Nat),(ms.map fun m=>if i<m then 1 else 0).sum=lnM ms i
 | []=>rfl
 | m::ms=>by
  rw [List.map_cons,List.sum_cons,ZAu ms]
  unfold lnM
  rw [List.countP_cons]
  simp only [decide_eq_true_eq]
  omega
theorem ZvR:∀ {ms:List Nat} {f:Nat→Nat},(∀ m,f m=0)→(ms.map f).sum=0
 | [],_,_=>rfl
 | m::ms,f,h=>by rw [List.map_cons,List.sum_cons,h m,ZvR h]
theorem ZHB {cs:List Nat}:∀ x∈Zaw (sgB cs),0<x.1:=by
 intro x hx
 rw [ZdD] at hx
 obtain ⟨s,hs,rfl⟩:=List.mem_map.1 hx
 exact (ZiV.1 hs).2
theorem Zqw {cs:List Nat} {most:Nat} (h1:1≤most) (hn:2≤(sgB cs).length) (h2:(sgB cs).length≤2^most) :
  ∃ m ms,m=(sgB cs).length∧(m::ms).length=most∧(∀ i (h:i<(ysB cs).length),Ziw (ysB cs)[i] (Zh7 cs most)=lnM (m::ms) i)∧(∀ s,s ∉ ysB cs→Ziw s (Zh7 cs most)=0) ∧
   ZrQ m (fun i=>2^(most-lnM (m::ms) i))=2^most:=by
 obtain ⟨k,rfl⟩:∃ k,most=k+1:=⟨most-1,by omega⟩
 have hb:Zh7 cs (k+1)=(lvB (Zaw (sgB cs)) k).take (2*(sgB cs).length-2):=by rw [Zh7,if_neg zO,Nat.add_sub_cancel]
 have hl:=ZAp (S:=Zaw (sgB cs)) k 2 (by rw [Zap,Nat.mul_comm,←Nat.pow_succ];exact h2)
 rw [Zap] at hl
 obtain ⟨m,ms,hMs,hc,-⟩:=ZHy (ZcZ _) ZHB k _ hl
 have hm:m=(sgB cs).length:=by
  have a:=ZHz hn hMs (Nat.le_refl _)
  have b:=ZHx hMs rfl
  rw [Zap] at b
  omega
 refine ⟨m,ms,hm,by rw [Zs9 hMs],fun i hi=>?_,fun s hs=>?_,?_⟩
 ·rw [hb,hc,←ZAu]
  congr 1
  exact List.map_congr_left fun m _=>ZDs hi
 ·rw [hb,hc]
  exact ZvR fun m=>ZDt hs
 ·have:=ZFT hn hMs hm
  rw [hm] at this ⊢
  exact this
theorem ZAv:∀ (k:Nat) (l:List Bt),l.length / 2=k→prK l k=prs l
 | 0,[],_=>rfl
 | 0,[_],_=>by simp [prK,prs]
 | 0,_::_::_,h=>by simp only [List.length_cons] at h;omega
 | k+1,[],h=>by simp at h
 | k+1,[_],h=>by simp at h
 | k+1,x::y::r,h=>by
  have ih:=ZAv k r (by simp only [List.length_cons] at h;omega)
  rw [prs,←ih]
  unfold prK
  rw [List.range_succ_eq_map,List.map_cons,List.map_map]
  congr 1
theorem ZuU:∀ {l:List Bt} {q:Bt},q∈prs l→∃ a∈l,∃ b∈l,q=(a.1+b.1,a.2++b.2)
 | [],q,h=>by simp [prs] at h
 | [_],q,h=>by simp [prs] at h
 | x::y::r,q,h=>by
  rw [prs,List.mem_cons] at h
  rcases h with rfl | h
  ·exact ⟨x,by simp,y,by simp,rfl⟩
  ·obtain ⟨a,ha,b,hb,e⟩:=ZuU h
   exact ⟨a,by simp [ha],b,by simp [hb],e⟩
theorem ZvS {S:List Bt} (hs:∀ p∈S,p.1≤4294967296∧p.2.length=1):∀ (k:Nat),∀ x∈lvB S k,x.1≤4294967296*2^k∧1≤x.2.length∧x.2.length≤2^k
 | 0=>fun x hx=>by have:=hs x hx;simp only [Nat.pow_zero];omega
 | k+1=>fun x hx=>by
  rw [lvB,ZdD,List.mem_append] at hx
  have hp:1≤2^k:=Nat.one_le_two_pow
  rw [Nat.pow_succ]
  rcases hx with hx | hx
  ·have:=hs x hx
   omega
  ·obtain ⟨a,ha,b,hb,rfl⟩:=ZuU hx
   have h1:=ZvS hs k a ha
   have h2:=ZvS hs k b hb
   simp only [List.length_append]
   omega
theorem ZAw {S:List Bt}:∀ (k:Nat),(lvB S k).length≤2*S.length
 | 0=>by simp only [lvB];omega
 | k+1=>by
  have:=ZAw (S:=S) k
  rw [lvB,Zap,List.length_append,Zh6]
  omega
theorem ZHC {nl:Bool} {l:List Bt}:∀ n cells,AO.row n cells∈[AO.row nl (bC l)]→AV.gl.glL 1 cells:=by
 intro n cells h
 simp only [List.mem_singleton,AO.row.injEq] at h
 obtain ⟨-,rfl⟩:=h
 exact Zag _ _ Zm0
def BG2:=ja2 @Zao @ZdE.eq_1
theorem ZgH [Tabs Tryz.prog] (l:List Bt) (N:Nat) (hN:N=l.length) (hl:N≤10000) :
  HCon Tryz.prog ZaG [.own 1000 0 (some 2) 0 N,ZdE] [.row false (bC l)] (.tup []) [(1000,0,.row false (bC (Zaw l)))] (KS N+1):=by
 refine HCon.of' mix Tryz.func147 rfl Tryz.ntmps147 Zcr Zcs zB (by simp only [AV.gl.glL,AV.gl,ZdE,and_true];omega) Zs0 ?_
 unfold Zbr
 have hc:=Zo2 l N hN hl
 repeat (first|refine zS ?_|exact zT)
 refine Zae [(1000,0)] 2000 hc zB zB ?_ ?_ ?_
 iterate 2 (case _=>(first|exact yU BG2|refine yR BG2 ?_))
 repeat (first|refine zR (ja2 @Zao @ZaC) ?_|exact zU (ja2 @Zao @ZaC))
 all_goals omega
theorem ZIo {S:List Bt}:lvB S 0=S:=rfl
theorem Zm3 {ρ:Nat→Nat→Nat × Nat} {l:List Bt}:ren.renL ρ (l.map bA)=l.map bA:=Zbm ρ _ Zjy
def Zx9 (l:List Bt) (most:Nat):List Bt:=if l.length<2 then l else (lvB (Zaw l) (most-1)).take (2*l.length-2)
def KC:Nat:=100+20*(KS 640+20)
theorem ZHD:1≤KC:=Nat.le_trans (by omega:1≤100) (Nat.le_add_right _ _)
theorem ZHE {n:Nat} (h:n≤640):KS n≤KS 640:=by
 unfold KS KM
 have h1:10*n*n≤10*640*640:=Nat.mul_le_mul zO h
 have h2:10*n*n*(2*n+20)≤10*640*640*(2*640+20):=Nat.mul_le_mul h1 zO
 omega
set_option maxHeartbeats 1000000 in
theorem Zo4 [Tabs Tryz.prog] (l:List Bt) (n most:Nat) (hn:n=l.length) (hl:n≤320) (h1:1≤most) (h15:most≤15) (hbig:n≤2^most) (hs:∀ p∈l,p.1≤4294967296∧p.2.length=1) :
  HCon Tryz.prog Zjh [.own 1000 0 (some 2) 0 n,int (most:Int)] [.row (nl0 n) (bC l)] (.sl (nl0 n) (some 2) ((Zx9 l most).map bA)) [] KC:=by
 refine HCon.of' mix Tryz.func143 rfl Tryz.ntmps143 ZoL ZoM zB (by simp only [AV.gl.glL,AV.gl,int,and_true];omega) ZHC ?_
 unfold Zjq
 have hbl:(bC l).length=n*2:=by rw [Za8,hn]
 have hbl2:(bC (Zaw l)).length=n*2:=by rw [Za8,Zap,hn]
 have hch:∀ k:List Bt,chunks (some 2) k.length (bC k)=k.map bA:=fun k=>Zl8
 by_cases c:n<2
 ·have d:decide ((n:Int)<2)=true:=decide_eq_true zO
  have dl:decide ((l.length:Int)<2)=true:=decide_eq_true zO
  have hb:Zx9 l most=l:=by rw [Zx9,if_pos zO]
  rw [hb]
  have hcn:=hch l
  rw [←hn] at hcn
  iterate 2 (first|refine zS ?_|exact zT)
  refine SWp.frzo 1000 0 (nl:=nl0 n) (cells:=bC l) yT Zm0 ?_
  refine SWp.le (Zaj (N:=31) (gc:=1) (l:=[(0,.sl (nl0 n) (some 2) (l.map bA))]) (h:=[]) rfl ?_ ?_ ?_) ?_
  iterate 3 (case _=>(first|exact yU (ja3 fR @hcn @hbl)|refine yR (ja3 fR @hcn @hbl) ?_))
  repeat (first|refine zR (ja2 @d @dl) ?_|exact zU (ja2 @d @dl))
  exact ZHD
 ·have d:decide ((n:Int)<2)=false:=decide_eq_false zO
  have hn0:nl0 n=false:=Zca zO
  rw [hn0]
  have hc:=ZgH l n hn zO
  have hcn:=hch (Zaw l)
  rw [Zap,←hn] at hcn
  have hKS:=ZHE (n:=n) zO
  obtain ⟨Q,hQ⟩:∃ Q,Q=KS 640:=⟨_,rfl⟩
  have hKC:KC=100+20*(Q+20):=by rw [hQ];rfl
  rw [←hQ] at hKS
  repeat (first|refine zR @d ?_|exact zU @d)
  refine Zae [(1000,0)] 2000 hc zB zB ?_ ?_ ?_
  iterate 2 (case _=>(first|exact yU BG2|refine yR BG2 ?_))
  obtain ⟨m1,hm1⟩:∃ m1,m1=most-1:=⟨_,rfl⟩
  have em:(most:Int)-1=(m1:Int):=zO
  repeat (first|refine zR (ja2 @Zao @em) ?_|exact zU (ja2 @Zao @em))
  refine SWp.le (Zaj (N:=31) (gc:=Q+20) (l:=[(0,.own 1000 0 (some 2) 0 n),(5,.own 1000 0 (some 2) 0 n),(14,int (m1:Int)),(15,int 0)]) (h:=[(1000,0,.row false (bC (Zaw l)))]) rfl ?_ ?_ ?_) ?_
  ·show 1+(KS n+1)≤Q+20
   omega
  iterate 2 (case _=>(first|exact yT|refine yS ?_))
  refine SWp.frzo 1000 0 (nl:=false) (cells:=bC (Zaw l)) yT Zm0 ?_
  refine SWp.le (Zaj (N:=31) (gc:=Q+20) (l:=[(0,.sl false (some 2) ((Zaw l).map bA)),(5,.sl false (some 2) ((Zaw l).map bA)),(14,int (m1:Int)),(15,int 0)]) (h:=[]) rfl ?_ ?_ ?_) ?_
  ·exact Nat.le_refl _
  iterate 2 (case _=>(first|exact yU (ja3 fR @hcn @hbl2)|refine yR (ja3 fR @hcn @hbl2) ?_))
  refine SWp.loop (α:=Nat) (fun k=>mk 31 (Q+20+k*(Q+20)) [(0,.sl false (some 2) ((Zaw l).map bA)),(5,.sl false (some 2) ((lvB (Zaw l) k).map bA)),(14,int (m1:Int)),(15,int (k:Int))] [])
   (fun k=>k≤m1) (fun k=>m1-k) 0 (Nat.zero_le _) (Zaj rfl ?_ ?_ ?_) ?_
  ·show Q+20≤Q+20+0*(Q+20)
   omega
  iterate 2 (case _=>(first|exact yU @ZIo|refine yR @ZIo ?_))
  clear hc hcn hbl hbl2 hch
  intro k hk _
  by_cases ck:k<m1
  ·have dk:decide ((k:Int)<(m1:Int))=true:=decide_eq_true zO
   have hlb:=ZvS (S:=Zaw l) (fun p hp=>hs p (ZdD.1 hp)) k
   have hlm:=ZAw (S:=Zaw l) k
   have hsl:(Zaw l).length=n:=by rw [Zap,hn]
   rw [hsl] at hlm
   have hp2:2^k≤16384:=Nat.pow_le_pow_right (n:=2) zO (show k≤14 by omega)
   have hnx:lvB (Zaw l) (k+1)=Zaw (Zaw l++prs (lvB (Zaw l) k)):=rfl
   obtain ⟨B,hBd⟩:∃ B,B=lvB (Zaw l) k:=⟨_,rfl⟩
   rw [←hBd] at hlb hlm hnx
   have hpl:=Zh6 B
   have cP:=Zs7 false B zO (fun p hp=>by have:=hlb p hp;omega)
   rw [ZAv _ _ rfl] at cP
   obtain ⟨N2,hN2⟩:∃ N2,N2=(Zaw l).length+(prs B).length:=⟨_,rfl⟩
   have cC:=ZpR false (nl0 (B.length / 2)) (Zaw l) (prs B) zO zO zO
   rw [←hN2] at cC
   have cS:=ZgH (Zaw l++prs B) N2 (by simp only [List.length_append];omega) zO
   have hK2:=ZHE (n:=N2) zO
   rw [←hQ] at hK2
   rw [←hBd]
   repeat (first|refine zR @dk ?_|exact zU @dk)
   refine Zaz _ (.inl ⟨by simp only [AV.free,AV.free.freeL,Zjy,Bool.and_self],cP⟩) ?_
   repeat (first|refine zR @Zjy ?_|exact zU @Zjy)
   refine Zae [] 3000 cC zB zB ?_ ?_ ?_
   iterate 2 (case _=>(first|exact yU @Zm3|refine yR @Zm3 ?_))
   repeat (first|refine zR (ja2 @Zao @Zm3) ?_|exact zU (ja2 @Zao @Zm3))
   refine Zae [(4022,Q+20+k*(Q+20)+4)] 5000 cS zB zB ?_ ?_ ?_
   iterate 2 (case _=>(first|exact yU BG2|refine yR BG2 ?_))
   have hch2:chunks (some 2) N2 (bC (Zaw (Zaw l++prs B)))=(Zaw (Zaw l++prs B)).map bA:=by
    have:=Zl8 (l:=Zaw (Zaw l++prs B))
    rw [Zap,List.length_append,←hN2] at this
    exact this
   have hbl3:(bC (Zaw (Zaw l++prs B))).length=N2*2:=by rw [Za8,Zap,List.length_append,hN2]
   have hkk:(k+1)*(Q+20)=k*(Q+20)+(Q+20):=Nat.succ_mul _ _
   change SWp _ _ _ _
   refine SWp.le (Zaj (N:=31) (gc:=Q+20+(k+1)*(Q+20)) (l:=[(0,.sl false (some 2) ((Zaw l).map bA)),(5,.own 4022 (Q+20+k*(Q+20)+4) (some 2) 0 N2),(14,int (m1:Int)),(15,int (k:Int))]) (h:=[(4022,Q+20+k*(Q+20)+4,.row false (bC (Zaw (Zaw l++prs B))))]) rfl ?_ ?_ ?_) ?_
   ·show Q+20+k*(Q+20)+5+(KS N2+1)≤_
    omega
   iterate 2 (case _=>(first|exact yU @Zao|refine yR @Zao ?_))
   refine SWp.frzo 4022 (Q+20+k*(Q+20)+4) (nl:=false) (cells:=bC (Zaw (Zaw l++prs B))) yT Zm0 ?_
   refine SWp.le (Zaj (N:=31) (gc:=Q+20+(k+1)*(Q+20)) (l:=[(0,.sl false (some 2) ((Zaw l).map bA)),(5,.sl false (some 2) ((Zaw (Zaw l++prs B)).map bA)),(14,int (m1:Int)),(15,int (k:Int))]) (h:=[]) rfl ?_ ?_ ?_) ?_
   ·exact Nat.le_refl _
   iterate 2 (case _=>(first|exact yU (ja3 fR @hch2 @hbl3)|refine yR (ja3 fR @hch2 @hbl3) ?_))
   repeat (first|refine zS ?_|exact zT)
   refine At.of (k+1) zO zO rfl rfl (Nat.le_refl _) ?_ ?_
   iterate 2 (case _=>(first|exact yU @hnx|refine yR @hnx ?_))
  ·have dk:decide ((k:Int)<(m1:Int))=false:=decide_eq_false zO
   obtain rfl:k=m1:=zO
   have hsl:(Zaw l).length=n:=by rw [Zap,hn]
   have hlen:=ZAp (S:=Zaw l) k 2 (by
    have:2*2^k=2^most:=by rw [show most=k+1 by omega,Nat.pow_succ,Nat.mul_comm]
    rw [hsl];omega)
   rw [hsl] at hlen
   have hbe:Zx9 l most=(lvB (Zaw l) k).take (2*n-2):=by rw [Zx9,if_neg zO,←hm1,←hn]
   obtain ⟨n2,hn2⟩:∃ n2,n2=2*n:=⟨_,rfl⟩
   obtain ⟨t,ht⟩:∃ t,t=2*n-2:=⟨_,rfl⟩
   have e1:2*(n:Int)=(n2:Int):=zO
   have e2:(n2:Int)-2=(t:Int):=zO
   rw [hbe,←ht]
   rw [←ht] at hlen
   repeat (first|refine zR (ja4 @dk @hsl @e1 @e2) ?_|exact zU (ja4 @dk @hsl @e1 @e2))
   have hkk:k*(Q+20)≤15*(Q+20):=Nat.mul_le_mul_right _ zO
   exact ⟨List.map_take.symm,by rw [hKC];omega⟩
def bdC (x:Int):Bool:=decide (x<0) || decide (4294967296<x)
def ZjC (cs:List Int):Nat:=cs.countP fun x=>decide (0<x)
def ZvT (cs:List Int) (most:Int):Nat:=if most<1∨15<most then 1 else if 320<cs.length then 4 else if cs.any bdC=true then 1 else if 2^most.toNat<ZjC cs then 4 else 0
theorem Zya {cs:List Int} {k:Nat} (h:k<cs.length):ZjC (cs.take (k+1))=ZjC (cs.take k)+if 0<cs[k] then 1 else 0:=by
 unfold ZjC
 rw [List.take_succ_eq_append_getElem h,List.countP_append]
 simp [List.countP_cons]
theorem ZvU {cs:List Int}:ZjC cs≤cs.length:=List.countP_le_length
def sgP (c:List Nat) (k:Nat):List Bt:=((List.range k).filter fun s=>decide (0<c.getD s 0)).map fun s=>(c.getD s 0,[s])
theorem ZFU {c:List Nat}:sgP c c.length=sgB c:=rfl
theorem ZAx {c:List Nat} {k:Nat} (h:0<c.getD k 0):sgP c (k+1)=sgP c k++[(c.getD k 0,[k])]:=by
 simp only [sgP,List.range_succ,List.filter_append,List.map_append]
 rw [List.filter_cons_of_pos (by simpa using h)]
 rfl
theorem ZAy {c:List Nat} {k:Nat} (h:¬ 0<c.getD k 0):sgP c (k+1)=sgP c k:=by
 simp only [sgP,List.range_succ,List.filter_append,List.map_append]
 rw [List.filter_cons_of_neg (by simpa using h)]
 simp
theorem ZAz {cs:List Int}:∀ {k:Nat},k≤cs.length→(sgP (cs.map Int.toNat) k).length=ZjC (cs.take k)
 | 0,_=>rfl
 | k+1,h=>by
  have hk:k<cs.length:=zO
  have ih:=ZAz (cs:=cs) (k:=k) zO
  have hg:(cs.map Int.toNat).getD k 0=cs[k].toNat:=by simp [List.getD,hk]
  have hu:ZjC (cs.take (k+1))=ZjC (cs.take k)+if 0<cs[k] then 1 else 0:=by
   unfold ZjC
   rw [List.take_succ_eq_append_getElem hk,List.countP_append]
   simp [List.countP_cons]
  rw [hu]
  by_cases c:0<cs[k]
  ·rw [ZAx (by rw [hg];omega),List.length_append,ih,if_pos c];rfl
  ·rw [ZAy (by rw [hg];omega),ih,if_neg c];rfl
theorem ZvV {c:List Nat} {k:Nat} (hc:∀ x∈c,x≤4294967296):∀ p∈sgP c k,p.1≤4294967296∧p.2.length=1:=by
 intro p hp
 obtain ⟨s,hs,rfl⟩:=List.mem_map.1 hp
 refine ⟨?_,rfl⟩
 simp only [List.mem_filter,decide_eq_true_eq] at hs
 simp only
 by_cases q:s<c.length
 ·rw [List.getD_eq_getElem?_getD,List.getElem?_eq_getElem q];exact hc _ (List.getElem_mem _)
 ·rw [List.getD_eq_getElem?_getD,List.getElem?_eq_none zO] at hs
  simp at hs
theorem ZvW {n t:Nat} {f:Nat→Nat} (ht:t<n):((List.range n).map f).set t (f t+1)=(List.range n).map fun s=>f s+if s=t then 1 else 0:=by
 refine List.ext_getElem zB fun i h1 h2=>?_
 simp only [List.length_map,List.length_range] at h2
 rw [List.getElem_set]
 simp only [List.getElem_map,List.getElem_range]
 by_cases e:t=i
 ·subst e;simp
 ·rw [if_neg e,if_neg zO];rfl
def ZAA (cs:List Int) (most:Int):AV:=if ZvT cs most≠0 then .tup [.sc (.slice none 0 0),int (ZvT cs most:Int)] else .tup [.sl false none ((Zc5 (cs.map Int.toNat) most.toNat).map nA),int 0]
theorem ZAB {cs:List Int} {most:Int}:(ZAA cs most).free=true:=by
 unfold ZAA
 split
 ·rfl
 ·simp only [AV.free,AV.free.freeL,Zaa,int,Bool.and_self]
theorem ZFV {l:List Bt} {x s:Nat}:bC l++[.sc (.int .i64 (x:Int)),.sl false none [nA s]]=bC (l++[(x,[s])]):=by rw [←Zl7];rfl
theorem ZAC {s B:Nat}:∀ {L:List Bt},(∀ x∈L,x.2.length≤B)→Ziw s L≤L.length*B
 | [],_=>by simp [Zl9]
 | x::L,h=>by
  have h1:=h x zB
  have h2:x.2.count s≤x.2.length:=List.count_le_length
  have ih:=ZAC (s:=s) (L:=L) fun y hy=>h y (by simp [hy])
  rw [Zfh,List.length_cons,Nat.succ_mul]
  omega
theorem ZAD {S:List Bt} {P:Nat→Prop} (h:∀ x∈S,∀ t∈x.2,P t):∀ (k:Nat),∀ x∈lvB S k,∀ t∈x.2,P t
 | 0=>h
 | k+1=>fun x hx t ht=>by
  rw [lvB,ZdD,List.mem_append] at hx
  rcases hx with hx | hx
  ·exact h x hx t ht
  ·obtain ⟨a,ha,b,hb,rfl⟩:=ZuU hx
   rcases List.mem_append.1 ht with ht | ht
   ·exact ZAD h k a ha t ht
   ·exact ZAD h k b hb t ht
theorem Zyb {c:List Nat} {q:Nat} (hc:c.length≤320) (hc32:∀ x∈c,x≤4294967296) (hq:q≤15):(Zh7 c q).length≤640∧∀ x∈Zh7 c q,x.2.length≤16384∧∀ t∈x.2,t<c.length:=by
 have hS:∀ x∈sgB c,∀ t∈x.2,t<c.length:=fun x hx t ht=>by
  obtain ⟨s,hs,rfl⟩:=List.mem_map.1 hx
  simp only [List.mem_singleton] at ht
  subst ht
  exact (ZiV.1 hs).1
 have h1:=ZvV (c:=c) (k:=c.length) hc32
 rw [ZFU] at h1
 have hl:(sgB c).length≤c.length:=by
  rw [sgB,List.length_map]
  exact Nat.le_trans (List.length_filter_le _ _) zB
 unfold Zh7
 split
 ·exact ⟨by omega,fun x hx=>⟨by have:=(h1 x hx).2;omega,hS x hx⟩⟩
 ·have hm:=ZAw (S:=Zaw (sgB c)) (q-1)
  rw [Zap] at hm
  refine ⟨by rw [List.length_take];omega,fun x hx=>?_⟩
  have hx:=List.mem_of_mem_take hx
  have hb:=ZvS (S:=Zaw (sgB c)) (fun p hp=>h1 p (ZdD.1 hp)) (q-1) x hx
  have hp2:2^(q-1)≤16384:=Nat.pow_le_pow_right (n:=2) zO (show q-1≤14 by omega)
  exact ⟨by omega,ZAD (S:=Zaw (sgB c)) (P:=fun t=>t<c.length) (fun y hy=>hS y (ZdD.1 hy)) _ x hx⟩
set_option maxHeartbeats 1000000 in
theorem ZpS [Tabs Tryz.prog] (nl:Bool) (cs:List Int) (most:Int):Con Tryz.prog ZkB [.sl nl none (cs.map int),int most] (ZAA cs most):=by
 refine Con.of' mix Tryz.func122 rfl Tryz.ntmps122 ZpE ZpF zB (by simp only [AV.free,AV.free.freeL,ZeT,int,Bool.and_self]) ZAB ?_
 unfold ZkD
 by_cases c1:most<1
 ·have d1:=decide_eq_true c1
  have hb:ZvT cs most=1:=by rw [ZvT,if_pos (.inl c1)]
  rw [ZAA,hb,if_pos zB]
  repeat (first|refine zR @d1 ?_|exact zU @d1)
 have d1:=decide_eq_false c1
 by_cases c2:15<most
 ·have d2:=decide_eq_true c2
  have hb:ZvT cs most=1:=by rw [ZvT,if_pos (.inr c2)]
  rw [ZAA,hb,if_pos zB]
  repeat (first|refine zR (ja2 @d1 @d2) ?_|exact zU (ja2 @d1 @d2))
 have d2:=decide_eq_false c2
 by_cases c3:320<cs.length
 ·have d3:decide ((320:Int)<(cs.length:Int))=true:=decide_eq_true zO
  have hb:ZvT cs most=4:=by rw [ZvT,if_neg zO,if_pos c3]
  rw [ZAA,hb,if_pos zB]
  repeat (first|refine zR (ja4 @d1 @d2 @d3 @List.length_map.{0,0}) ?_|exact zU (ja4 @d1 @d2 @d3 @List.length_map.{0,0}))
 have d3:decide ((320:Int)<(cs.length:Int))=false:=decide_eq_false zO
 obtain ⟨q,rfl⟩:∃ q:Nat,most=(q:Int):=⟨most.toNat,by omega⟩
 have hbE:ZvT cs (q:Int)=if cs.any bdC=true then 1 else if 2^q<ZjC cs then 4 else 0:=by rw [ZvT,if_neg zO,if_neg c3,Int.toNat_natCast]
 obtain ⟨G,hG⟩:∃ G,G=ZAA cs (q:Int):=⟨_,rfl⟩
 have hG1:cs.any bdC=true→G = .tup [.sc (.slice none 0 0),int 1]:=fun h=>by rw [hG,ZAA,hbE,if_pos h,if_pos zB];rfl
 rw [←hG]
 obtain ⟨c,hc⟩:∃ c,c=cs.map Int.toNat:=⟨_,rfl⟩
 obtain ⟨M,hM⟩:∃ M,M=cs.length:=⟨_,rfl⟩
 rw [←hM] at d3 c3
 iterate 14 (first|refine zR (ja5 @d1 @d2 @d3 @List.length_map.{0,0} hM.symm) ?_|exact zU (ja5 @d1 @d2 @d3 @List.length_map.{0,0} hM.symm))
 refine SWp.adopt 6 (some 2) yT ?_
 repeat (first|refine zR (ja2 @List.length_map.{0,0} hM.symm) ?_|exact zU (ja2 @List.length_map.{0,0} hM.symm))
 refine SWp.loop (α:=Nat × Nat × Nat) (fun x=>mk 78 x.2.2 [(0,.sl nl none (cs.map int)),(1,int (q:Int)),(6,.own 6 x.2.1 (some 2) 0 (ZjC (cs.take x.1))),(23,.sl nl none (cs.map int)),(24,int (M:Int)),(25,int (x.1:Int))] [(6,x.2.1,.row (nl0 (ZjC (cs.take x.1))) (bC (sgP c x.1)))])
  (fun x=>x.1≤M∧(cs.take x.1).any bdC=false∧x.2.2≤1+x.1) (fun x=>M-x.1) (0,0,1) ⟨Nat.zero_le _,by simp,by simp⟩ (Zaj rfl ?_ ?_ ?_) ?_
 ·exact Nat.le_refl _
 ·simp (disch:=omega) only [wP,wZ,so,sm,sg,sn,undef,seval,if_pos,if_neg,Zbd,frz,AV.flat,↓reduceIte,ne_eq,reduceCtorEq,ByteArray.size,show ZjC (cs.take 0)=0 from rfl,show ZjC []=0 from rfl]
  try rfl
 ·simp (disch:=omega) only [wP,wZ,so,sm,sg,sn,undef,seval,if_pos,if_neg,Zbd,frz,AV.flat,↓reduceIte,ne_eq,reduceCtorEq,ByteArray.size,show ZjC (cs.take 0)=0 from rfl,show ZjC []=0 from rfl,Zbh]
  try rfl
 rintro ⟨k,g,gc⟩ ⟨hk,hany,hgc⟩ -
 simp only at hk hany hgc
 obtain ⟨u,hu⟩:∃ u,u=ZjC (cs.take k):=⟨_,rfl⟩
 have hul:u≤k:=by rw [hu];exact Nat.le_trans ZvU (by rw [List.length_take];omega)
 have hsl:(sgP c k).length=u:=by rw [hc,hu];exact ZAz zO
 have hbl:(bC (sgP c k)).length=u*2:=by rw [Za8,hsl]
 simp only [←hu]
 by_cases ck:k<M
 ·have dk:decide ((k:Int)<(M:Int))=true:=decide_eq_true zO
  have ck':k<cs.length:=zO
  obtain ⟨x,hx⟩:∃ x,x=cs[k]:=⟨_,rfl⟩
  have hg:(cs.map int).getD k .junk = .sc (.int .i64 x):=by rw [hx];simp [List.getD,ck',int]
  have hcg:c.getD k 0=x.toNat:=by rw [hc,hx];simp [List.getD,ck']
  have hus:=Zya ck'
  rw [←hu,←hx] at hus
  have htk:(cs.take (k+1)).any bdC=bdC x:=by rw [List.take_succ_eq_append_getElem ck',List.any_append,hany,←hx];simp
  have hmem:bdC x=true→cs.any bdC=true:=fun h=>by
   rw [List.any_eq_true]
   exact ⟨x,by rw [hx];exact List.getElem_mem _,h⟩
  by_cases c4:x<0
  ·have d4:=decide_eq_true c4
   rw [hG1 (hmem (by unfold bdC;rw [d4];rfl))]
   repeat (first|refine zR (ja5 @dk @List.length_map.{0,0} hM.symm @hg @d4) ?_|exact zU (ja5 @dk @List.length_map.{0,0} hM.symm @hg @d4))
  have d4:=decide_eq_false c4
  by_cases c5:4294967296<x
  ·have d5:=decide_eq_true c5
   rw [hG1 (hmem (by unfold bdC;rw [d5,Bool.or_true]))]
   repeat (first|refine zR (ja6 @dk @List.length_map.{0,0} hM.symm @hg @d4 @d5) ?_|exact zU (ja6 @dk @List.length_map.{0,0} hM.symm @hg @d4 @d5))
  have d5:=decide_eq_false c5
  have hb:bdC x=false:=by unfold bdC;rw [d4,d5];rfl
  by_cases c6:0<x
  ·have d6:=decide_eq_true c6
   rw [if_pos c6] at hus
   have hsg:=ZAx (c:=c) (k:=k) (by rw [hcg];omega)
   obtain ⟨z,rfl⟩:∃ z:Nat,x=(z:Int):=⟨x.toNat,by omega⟩
   rw [hcg,Int.toNat_natCast] at hsg
   have hcells:bC (sgP c k)++[.sc (.int .i64 (z:Int)),.sl false none [.sc (.int .i64 (k:Int))]]=bC (sgP c (k+1)):=by rw [hsg];exact ZFV
   have hfl:List.flatMap (fun x=>(Zas x).getD []) [AV.agg [AV.sc (Value.int IntKind.i64 (z:Int)),AV.sl false none [AV.sc (.int .i64 (k:Int))]]]=[.sc (.int .i64 (z:Int)),.sl false none [.sc (.int .i64 (k:Int))]]:=rfl
   repeat (first|refine zR (ja7 @dk @List.length_map.{0,0} hM.symm @hg @d4 @d5 @d6) ?_|exact zU (ja7 @dk @List.length_map.{0,0} hM.symm @hg @d4 @d5 @d6))
   refine ⟨⟨_,rfl,rfl⟩,⟨fun w hw=>⟨_,List.mem_singleton.1 hw⟩,hbl.symm,by omega,by omega⟩,?_⟩
   repeat (first|refine zR (ja2 @hfl @hcells) ?_|exact zU (ja2 @hfl @hcells))
   refine At.of (k+1,gc,gc+1) ⟨by simp only;omega,by simp only;rw [htk,hb],by simp only;omega⟩ (by simp only;omega) rfl rfl (Nat.le_refl _) ?_ ?_
   ·(first|exact yU @hus|refine yR @hus ?_)
    try omega
   ·(first|exact yU (ja2 @hus @Zbi)|refine yR (ja2 @hus @Zbi) ?_)
  ·have d6:=decide_eq_false c6
   rw [if_neg c6,Nat.add_zero] at hus
   have hsg:=ZAy (c:=c) (k:=k) (by rw [hcg];omega)
   repeat (first|refine zR (ja7 @dk @List.length_map.{0,0} hM.symm @hg @d4 @d5 @d6) ?_|exact zU (ja7 @dk @List.length_map.{0,0} hM.symm @hg @d4 @d5 @d6))
   refine At.of (k+1,g,gc) ⟨by simp only;omega,by simp only;rw [htk,hb],by simp only;omega⟩ (by simp only;omega) rfl rfl (Nat.le_refl _) ?_ ?_
   iterate 2 (case _=>(first|exact yU (ja2 @hus @hsg)|refine yR (ja2 @hus @hsg) ?_))
 ·have dk:decide ((k:Int)<(M:Int))=false:=decide_eq_false zO
  obtain rfl:k=M:=zO
  rw [hM,List.take_length] at hany hu
  have hq:2^q≤32768:=Nat.pow_le_pow_right (n:=2) zO (show q≤15 by omega)
  by_cases c7:2^q<u
  ·have d7:decide (((1*2^q:Nat):Int)<(u:Int))=true:=decide_eq_true (Int.ofNat_lt.2 zO)
   have hGe:G = .tup [.sc (.slice none 0 0),int 4]:=by
    have hb:ZvT cs (q:Int)=4:=by rw [hbE,if_neg (by rw [hany];simp),if_pos (by rw [←hu];exact c7)]
    rw [hG,ZAA,hb,if_pos zB];rfl
   rw [hGe]
   repeat (first|refine zR (ja4 @dk @List.length_map.{0,0} hM.symm @d7) ?_|exact zU (ja4 @dk @List.length_map.{0,0} hM.symm @d7))
  ·have d7:decide (((1*2^q:Nat):Int)<(u:Int))=false:=decide_eq_false (fun h=>c7 (by have:=Int.ofNat_lt.1 h;omega))
   have hGe:G = .tup [.sl false none ((Zc5 c q).map nA),int 0]:=by
    have hb:ZvT cs (q:Int)=0:=by rw [hbE,if_neg (by rw [hany];simp),if_neg (by rw [←hu];exact c7)]
    rw [hG,ZAA,hb,if_neg zB,Int.toNat_natCast,←hc]
   rw [hGe]
   have hcl:c.length=k:=by rw [hc,List.length_map,hM]
   have hc32:∀ x∈c,x≤4294967296:=fun x hx=>by
    rw [hc] at hx
    obtain ⟨y,hy,rfl⟩:=List.mem_map.1 hx
    rw [List.any_eq_false] at hany
    have:=hany y hy
    simp only [bdC,Bool.or_eq_true,decide_eq_true_eq] at this
    omega
   have hch:=Zo4 (sgP c k) u q hsl.symm zO zO zO zO (ZvV hc32)
   have hbs:Zx9 (sgP c k) q=Zh7 c q:=by rw [←hcl];rfl
   rw [hbs] at hch
   repeat (first|refine zR (ja4 @dk @List.length_map.{0,0} hM.symm @d7) ?_|exact zU (ja4 @dk @List.length_map.{0,0} hM.symm @d7))
   refine Zae [(6,g)] 1000 hch zB zB ?_ ?_ ?_
   iterate 2 (case _=>(first|exact yU @Zao|refine yR @Zao ?_))
   obtain ⟨hBn,hBe⟩:=Zyb (c:=c) (q:=q) zO hc32 zO
   rw [hcl] at hBe
   have hlens:Zc5 c q=(List.range k).map fun s=>Ziw s (Zh7 c q):=by rw [Zc5,hcl]
   rw [hlens]
   clear hch hbs hlens
   obtain ⟨Bs,hBs⟩:∃ Bs,Bs=Zh7 c q:=⟨_,rfl⟩
   rw [←hBs] at hBn hBe
   rw [←hBs]
   repeat (first|refine zR (ja2 @Zm3 @List.length_map.{0,0}) ?_|exact zU (ja2 @Zm3 @List.length_map.{0,0}))
   refine SWp.loop (α:=Nat × List Nat) (fun x=>mk 78 (gc+1+KC+x.1) [(9,.own 53 gc none 0 k),(56,.sl (nl0 u) (some 2) (Bs.map bA)),(57,int (Bs.length:Int)),(58,int (x.1:Int))] [(53,gc,.row false (x.2.map nA))])
    (fun x=>x.1≤Bs.length∧x.2=(List.range k).map fun s=>Ziw s (Bs.take x.1)) (fun x=>Bs.length-x.1) (0,List.replicate k 0) ⟨Nat.zero_le _,?_⟩ (Zaj rfl ?_ ?_ ?_) ?_
   ·simp only [List.take_zero,Zl9]
    refine List.ext_getElem zB fun i h1 h2=>by simp
   ·simp only;omega
   ·(first|exact yT|refine yS ?_)
   ·(first|exact yT|refine yS ?_)
    simp
    exact .inr rfl
   rintro ⟨j,l⟩ ⟨hj,hlf⟩ -
   simp only at hj hlf
   have hll:l.length=k:=by rw [hlf];simp
   by_cases cj:j<Bs.length
   ·have dj:decide ((j:Int)<(Bs.length:Int))=true:=decide_eq_true zO
    obtain ⟨p,hp⟩:∃ p,p=Bs.getD j (0,[]):=⟨_,rfl⟩
    have hpg:p=Bs[j]:=by rw [hp];simp [List.getD,cj]
    have hpm:p∈Bs:=by rw [hpg];exact List.getElem_mem _
    obtain ⟨hp1,hp2⟩:=hBe p hpm
    have eb:(Bs.map bA).getD j .junk = .agg [.sc (.int .i64 (p.1:Int)),.sl false none (p.2.map nA)]:=by rw [hp];exact ZuS cj
    have htj:Bs.take (j+1)=Bs.take j++[p]:=by rw [List.take_succ_eq_append_getElem cj,hpg]
    have hcb:∀ s,Ziw s (Bs.take j)≤640*16384:=fun s=>Nat.le_trans (ZAC (B:=16384) fun x hx=>(hBe x (List.mem_of_mem_take hx)).1) (Nat.mul_le_mul_right _ (by rw [List.length_take];omega))
    repeat (first|refine zR (ja3 @dj @eb @List.length_map.{0,0}) ?_|exact zU (ja3 @dj @eb @List.length_map.{0,0}))
    refine SWp.loop (α:=Nat × List Nat) (fun x=>mk 78 (gc+1+KC+j+1) [(9,.own 53 gc none 0 k),(56,.sl (nl0 u) (some 2) (Bs.map bA)),(57,int (Bs.length:Int)),(58,int (j:Int)),(63,.sl false none (p.2.map nA)),(64,int (p.2.length:Int)),(65,int (x.1:Int))] [(53,gc,.row false (x.2.map nA))])
     (fun x=>x.1≤p.2.length∧x.2=(List.range k).map fun s=>Ziw s (Bs.take j)+(p.2.take x.1).count s) (fun x=>p.2.length-x.1) (0,l) ⟨Nat.zero_le _,by simp [hlf]⟩ (Zaj rfl ?_ ?_ ?_) ?_
    ·exact Nat.le_refl _
    iterate 2 (case _=>(first|exact yT|refine yS ?_))
    rintro ⟨i,m⟩ ⟨hi,hmf⟩ -
    simp only at hi hmf
    have hml:m.length=k:=by rw [hmf];simp
    by_cases ci:i<p.2.length
    ·have di:decide ((i:Int)<(p.2.length:Int))=true:=decide_eq_true zO
     obtain ⟨t,ht⟩:∃ t,t=p.2.getD i 0:=⟨_,rfl⟩
     have htg:t=p.2[i]:=by rw [ht];simp [List.getD,ci]
     have htk:t<k:=hp2 t (by rw [htg];exact List.getElem_mem _)
     have e1:(p.2.map nA).getD i .junk = .sc (.int .i64 (t:Int)):=by rw [ht];exact Zct ci
     obtain ⟨v,hv⟩:∃ v,v=m.getD t 0:=⟨_,rfl⟩
     have e2:(m.map nA).getD t .junk = .sc (.int .i64 (v:Int)):=by rw [hv];exact Zct zO
     have hvf:v=Ziw t (Bs.take j)+(p.2.take i).count t:=by rw [hv,hmf];simp [List.getD,htk]
     have hvb:v≤20000000:=by
      have a:=hcb t
      have b:(p.2.take i).count t≤(p.2.take i).length:=List.count_le_length
      rw [List.length_take] at b
      omega
     obtain ⟨v1,hv1⟩:∃ v1,v1=v+1:=⟨_,rfl⟩
     have hev:(v:Int)+1=(v1:Int):=zO
     have hsp:=ZbJ (l:=m) (k:=t) (x:=v1) zO
     have hnx:m.set t v1=(List.range k).map fun s=>Ziw s (Bs.take j)+(p.2.take (i+1)).count s:=by
      rw [hmf,hv1,hvf,ZvW (f:=fun s=>Ziw s (Bs.take j)+(p.2.take i).count s) htk]
      refine List.map_congr_left fun s _=>?_
      rw [List.take_succ_eq_append_getElem ci,List.count_append,←htg,List.count_singleton]
      simp only [beq_iff_eq]
      by_cases e:s=t
      ·subst e;simp;omega
      ·rw [if_neg e,if_neg zO];omega
     repeat (first|refine zR (ja7 @di @e1 @e2 @hev @hml @List.length_map.{0,0} @hsp) ?_|exact zU (ja7 @di @e1 @e2 @hev @hml @List.length_map.{0,0} @hsp))
     refine At.of (i+1,m.set t v1) ⟨by simp only;omega,hnx⟩ (by simp only;omega) rfl rfl (Nat.le_refl _) ?_ ?_
     ·(first|exact yT|refine yS ?_)
     ·(first|exact yT|refine yS ?_)
      rw [ZgF,Zhp]
      exact hsp
    ·have di:decide ((i:Int)<(p.2.length:Int))=false:=decide_eq_false zO
     repeat (first|refine zR @di ?_|exact zU @di)
     refine At.of (j+1,m) ⟨by simp only;omega,?_⟩ (by simp only;omega) rfl rfl (Nat.le_refl _) ?_ ?_
     ·simp only
      rw [hmf,show i=p.2.length by omega,List.take_length,htj]
      refine List.map_congr_left fun s _=>?_
      rw [Zix,Zfh,Zl9,Nat.add_zero]
     iterate 2 (case _=>(first|exact yT|refine yS ?_))
   ·have dj:decide ((j:Int)<(Bs.length:Int))=false:=decide_eq_false zO
    rw [show j=Bs.length by omega,List.take_length] at hlf
    rw [←hlf]
    repeat (first|refine zR (ja3 @dj @hll iR) ?_|exact zU (ja3 @dj @hll iR))
theorem Zo5 {f:Nat→Nat}:∀ (l:List Nat),Zav (l.map f)=(l.map fun s=>wt (f s)).sum
 | []=>rfl
 | x::l=>by rw [List.map_cons,Zav,Zo5 l,List.map_cons,List.sum_cons]
theorem ZjV {p:Nat→Bool} {F:Nat→Nat} (h:∀ s,p s=false→F s=0):∀ (l:List Nat),(l.map F).sum=((l.filter p).map F).sum
 | []=>rfl
 | x::l=>by
  rw [List.map_cons,List.sum_cons,ZjV h l,List.filter_cons]
  cases q:p x with
  | true=>simp
  | false=>rw [h x q];simp
theorem ZHF {F:Nat→Nat} (l:List Nat):(l.map F).sum=ZrQ l.length fun i=>F (l.getD i 0):=by
 have e:l.map F=(List.range l.length).map fun i=>F (l.getD i 0):=by
  refine List.ext_getElem zB fun i h1 h2=>?_
  have:i<l.length:=by simpa using h1
  simp [List.getD,this]
 rw [ZrQ,←e]
theorem ZHG {n:Nat} (h:1≤n) (h2:n≤15):wt n=2^(15-n):=by
 rw [wt,if_neg zO,show 32768=2^15 from rfl,Nat.pow_div h2 zO]
theorem ZAE {cs:List Nat} {most s:Nat} (hs:s<cs.length):(Zc5 cs most).getD s 0=Ziw s (Zh7 cs most):=by
 simp [Zc5,List.getD,hs]
theorem Zcv {cs:List Nat} {most:Nat}:(Zc5 cs most).length=cs.length:=by simp [Zc5]
theorem Zma {cs:List Nat} {most:Nat} (h1:1≤most) (h2:(sgB cs).length≤2^most) {s:Nat} (hs:s<cs.length) :
  (Zc5 cs most).getD s 0≤most∧(0<(Zc5 cs most).getD s 0↔0<cs.getD s 0):=by
 rw [ZAE hs]
 by_cases hn:2≤(sgB cs).length
 ·obtain ⟨m,ms,hm,hL,hi,hz,-⟩:=Zqw h1 hn h2
  by_cases c:s∈ysB cs
  ·obtain ⟨i,hi2,rfl⟩:=List.mem_iff_getElem.1 c
   rw [hi i hi2]
   have a:=ZAq (ms:=m::ms) (i:=i)
   have b:=ZAr (m:=m) (ms:=ms) (i:=i) (by rw [hm,←Zta];exact hi2)
   have d:=(ZAt.1 c).2
   exact ⟨by omega,⟨fun _=>d,fun _=>by omega⟩⟩
  ·rw [hz s c]
   have d:¬ 0<cs.getD s 0:=fun q=>c (ZAt.2 ⟨hs,q⟩)
   exact ⟨by omega,⟨fun q=>by omega,fun q=>absurd q d⟩⟩
 ·have hb:Zh7 cs most=sgB cs:=by rw [Zh7,if_pos zO]
  have hc:Ziw s (sgB cs)=if s∈usB cs then 1 else 0:=by
   rw [sgB,Zlf]
   exact (List.nodup_range.sublist List.filter_sublist:(usB cs).Nodup).count
  rw [hb,hc]
  by_cases c:s∈usB cs
  ·rw [if_pos c];exact ⟨h1,⟨fun _=>(ZiV.1 c).2,fun _=>by omega⟩⟩
  ·rw [if_neg c];exact ⟨by omega,⟨fun q=>by omega,fun q=>absurd (ZiV.2 ⟨hs,q⟩) c⟩⟩
theorem ZDu {cs:List Nat} {most:Nat} (hn:(sgB cs).length<2) {s:Nat} (hs:s<cs.length):(Zc5 cs most).getD s 0≤1:=by
 rw [ZAE hs,Zh7,if_pos hn,sgB,Zlf,(List.nodup_range.sublist List.filter_sublist:(usB cs).Nodup).count]
 split <;> omega
theorem Zmb {cs:List Nat} {most:Nat} (h1:1≤most) (h15:most≤15) (hn:2≤(sgB cs).length) (h2:(sgB cs).length≤2^most):Zav (Zc5 cs most)=32768:=by
 obtain ⟨m,ms,hm,hL,hi,hz,hK⟩:=Zqw h1 hn h2
 rw [Zc5,Zo5,ZjV (p:=fun s=>decide (0<cs.getD s 0)) fun s hs=>by
  have:s ∉ ysB cs:=fun q=>by
   have:=(ZAt.1 q).2
   simp only [decide_eq_false_iff_not] at hs
   exact hs this
  rw [hz s this];rfl]
 rw [show (List.range cs.length).filter (fun s=>decide (0<cs.getD s 0))=usB cs from rfl]
 rw [←(ZuT.map fun s=>wt (Ziw s (Zh7 cs most))).sum_nat,ZHF]
 have hlen:(ysB cs).length=m:=by rw [Zta,hm]
 rw [hlen,Zm2 (g:=fun i=>2^(15-most)*2^(most-lnM (m::ms) i)) fun i q=>by
  have hq:i<(ysB cs).length:=zO
  rw [show (ysB cs).getD i 0=(ysB cs)[i] by simp [List.getD,hq],hi i hq]
  have a:=ZAq (ms:=m::ms) (i:=i)
  have b:=ZAr (m:=m) (ms:=ms) (i:=i) q
  rw [ZHG b zO,←Nat.pow_add]
  congr 1
  omega]
 rw [ZvQ,hK,←Nat.pow_add,show 15-most+most=15 by omega]
def cdA (nl:Bool) (l:List Nat):AV:=.agg [.sl nl none (l.map nA),.sl false none ((Za2 l).map nA)]
theorem Zrx {nl:Bool} {l:List Nat}:(cdA nl l).free=true:=by simp only [cdA,AV.free,AV.free.freeL,Zaa,Bool.and_self]
structure LnOk (l:List Nat):Prop where
 small:∀ x∈l,x≤15
 len:l.length≤320
 kr:Zav l≤32768
theorem Zry [Tabs Tryz.prog] (nl:Bool) (l:List Nat) (h:LnOk l):Con Tryz.prog ZdG [.sl nl none (l.map nA)] (cdA nl l):=by
 refine Con.of' mix Tryz.func74 rfl Tryz.ntmps74 ZnO ZnP zB (by simp only [AV.free,AV.free.freeL,Zaa,Bool.and_self]) Zrx ?_
 unfold ZiQ
 have hc:=ZsS nl (l.map Int.ofNat) (by rw [ZHt h.small h.len,if_neg (by have:=h.kr;omega)]) l toNat_ofNat.symm
 rw [←Zx5] at hc
 repeat (first|refine zS ?_|exact zT)
 refine Zaz _ (.inl ⟨by simp only [AV.free,AV.free.freeL,Zaa,Bool.and_self],hc⟩) ?_
 repeat (first|refine zR @cdA.eq_1 ?_|exact zU @cdA.eq_1)
def fxL:List Nat:=List.replicate 144 8++(List.replicate 112 9++(List.replicate 24 7++List.replicate 8 8))
def fxD:List Nat:=List.replicate 32 5
theorem Zo6:LnOk fxL:=⟨by decide +kernel,by decide +kernel,by decide +kernel⟩
theorem Ztb:LnOk fxD:=⟨by decide +kernel,by decide +kernel,by decide +kernel⟩
def Zqx (l d:List Nat):AV:=.agg [.sl false none (l.map nA),.sl false none ((Za2 l).map nA),.sl false none (d.map nA),.sl false none ((Za2 d).map nA)]
theorem Zo7 {l d:List Nat}:(Zqx l d).free=true:=by simp only [Zqx,AV.free,AV.free.freeL,Zaa,Bool.and_self]
def BG1:=ja2 fR iR
theorem Ztc [Tabs Tryz.prog]:Con Tryz.prog Zfu [] (Zqx fxL fxD):=by
 refine Con.of' mix Tryz.func36 rfl Tryz.ntmps36 Zkm Zkn zB rfl Zo7 ?_
 unfold ZfG
 have p1:=ZaX 8 144 zO zO
 have p2:=ZaX 9 112 zO zO
 have p3:=ZaX 7 24 zO zO
 have p4:=ZaX 8 8 zO zO
 have p5:=ZaX 5 32 zO zO
 have pc:=Zjx (List.replicate 144 8) (List.replicate 112 9) (List.replicate 24 7) (List.replicate 8 8) zB zB
 have t1:=Zry false fxL Zo6
 have t2:=Zry false fxD Ztb
 have hL:List.replicate 144 8++(List.replicate 112 9++(List.replicate 24 7++List.replicate 8 8))=fxL:=rfl
 have hD:List.replicate 32 5=fxD:=rfl
 rw [hL] at pc
 rw [hD] at p5
 obtain ⟨A,hA⟩:∃ A,A=List.replicate 144 8:=⟨_,rfl⟩
 obtain ⟨B,hB⟩:∃ B,B=List.replicate 112 9:=⟨_,rfl⟩
 obtain ⟨C,hC⟩:∃ C,C=List.replicate 24 7:=⟨_,rfl⟩
 obtain ⟨D,hDd⟩:∃ D,D=List.replicate 8 8:=⟨_,rfl⟩
 rw [←hA] at p1 pc
 rw [←hB] at p2 pc
 rw [←hC] at p3 pc
 rw [←hDd] at p4 pc
 obtain ⟨F,hF⟩:∃ F,F=fxL:=⟨_,rfl⟩
 obtain ⟨G,hG⟩:∃ G,G=fxD:=⟨_,rfl⟩
 rw [←hF] at pc t1 ⊢
 rw [←hG] at p5 t2 ⊢
 clear hL hD hF hG
 unfold cdA at t1 t2
 repeat (first|refine zR BG1 ?_|exact zU BG1)
 refine Zfj 1 1 (nl:=false) (cells:=[.sc (.int .i64 8)]) [.sl false none [.sc (.int .i64 ((8:Nat):Int))],int ((144:Nat):Int)] _ yT (yU @Zaa) ?_ (yU @Zaa) p1 ?_
 ·(first|exact yU BG1|refine yR BG1 ?_)
 repeat (first|refine zR BG1 ?_|exact zU BG1)
 refine Zfj 3 2 (nl:=false) (cells:=[.sc (.int .i64 9)]) [.sl false none [.sc (.int .i64 ((9:Nat):Int))],int ((112:Nat):Int)] _ yT (yU @Zaa) ?_ (yU @Zaa) p2 ?_
 ·(first|exact yU BG1|refine yR BG1 ?_)
 repeat (first|refine zR BG1 ?_|exact zU BG1)
 refine Zfj 5 3 (nl:=false) (cells:=[.sc (.int .i64 7)]) [.sl false none [.sc (.int .i64 ((7:Nat):Int))],int ((24:Nat):Int)] _ yT (yU @Zaa) ?_ (yU @Zaa) p3 ?_
 ·(first|exact yU BG1|refine yR BG1 ?_)
 repeat (first|refine zR BG1 ?_|exact zU BG1)
 refine Zfj 7 4 (nl:=false) (cells:=[.sc (.int .i64 8)]) [.sl false none [.sc (.int .i64 ((8:Nat):Int))],int ((8:Nat):Int)] _ yT (yU @Zaa) ?_ (yU @Zaa) p4 ?_
 ·(first|exact yU BG1|refine yR BG1 ?_)
 repeat (first|refine zR BG1 ?_|exact zU BG1)
 refine Zaz _ (.inl ⟨by simp only [AV.free,AV.free.freeL,Zaa,Bool.and_self],pc⟩) ?_
 repeat (first|refine zR BG1 ?_|exact zU BG1)
 refine Zaz _ (.inl ⟨by simp only [AV.free,AV.free.freeL,Zaa,Bool.and_self],t1⟩) ?_
 repeat (first|refine zR BG1 ?_|exact zU BG1)
 refine Zfj 12 5 (nl:=false) (cells:=[.sc (.int .i64 5)]) [.sl false none [.sc (.int .i64 ((5:Nat):Int))],int ((32:Nat):Int)] _ yT (yU @Zaa) ?_ (yU @Zaa) p5 ?_
 ·(first|exact yU BG1|refine yR BG1 ?_)
 repeat (first|refine zR BG1 ?_|exact zU BG1)
 refine Zaz _ (.inl ⟨by simp only [AV.free,AV.free.freeL,Zaa,Bool.and_self],t2⟩) ?_
 repeat (first|refine zR (ja3 fR iR @Zqx.eq_1) ?_|exact zU (ja3 fR iR @Zqx.eq_1))
structure CtOk (c:List Nat) (q:Nat):Prop where
 len:c.length≤300
 small:∀ x∈c,x≤100000
 pos:1≤q
 most:q≤15
 room:c.length≤2^q
theorem ZAF {c:List Nat}:(sgB c).length≤c.length:=by
 rw [sgB,List.length_map]
 exact Nat.le_trans (List.length_filter_le _ _) zB
theorem ZAG {c:List Nat} {q:Nat} (h:CtOk c q):ZvT (c.map Int.ofNat) (q:Int)=0:=by
 have h1:=h.len
 have h2:=h.pos
 have h3:=h.most
 have h4:=h.room
 have h6:=ZvU (cs:=c.map Int.ofNat)
 rw [List.length_map] at h6
 have hb:(c.map Int.ofNat).any bdC=false:=by
  rw [List.any_eq_false]
  intro x hx
  obtain ⟨y,hy,rfl⟩:=List.mem_map.1 hx
  have:=h.small y hy
  unfold bdC
  simp only [Int.ofNat_eq_natCast,Bool.or_eq_true,decide_eq_true_eq,not_or]
  omega
 unfold ZvT
 rw [if_neg zO,List.length_map,if_neg zO,hb,if_neg zB,Int.toNat_natCast,if_neg zO]
theorem ZD9 {F:Nat→Nat} (h:∀ s,F s≤32768):∀ (l:List Nat),(l.map F).sum≤32768*l.length
 | []=>Nat.le_refl _
 | x::l=>by
  have:=ZD9 h l
  have:=h x
  rw [List.map_cons,List.sum_cons,List.length_cons];omega
theorem ZjD {c:List Nat} {q:Nat} (h:CtOk c q):LnOk (Zc5 c q):=by
 have h2:=h.pos
 have h3:=h.most
 have h5:=ZAF (c:=c)
 have hr:(sgB c).length≤2^q:=Nat.le_trans h5 h.room
 refine ⟨fun x hx=>?_,by rw [Zcv];have:=h.len;omega,?_⟩
 ·obtain ⟨i,hi,rfl⟩:=List.getElem_of_mem hx
  rw [Zcv] at hi
  have:=(Zma h2 hr hi).1
  have e:(Zc5 c q).getD i 0=(Zc5 c q)[i]'(by rw [Zcv];exact hi):=by simp [List.getD,Zcv,hi]
  rw [e] at this
  omega
 ·by_cases hn:2≤(sgB c).length
  ·rw [Zmb h2 h3 hn hr];exact Nat.le_refl _
  ·rw [Zc5,Zo5,ZjV (p:=fun s=>decide (0<c.getD s 0)) fun s hs=>by
    rw [Zh7,if_pos zO,sgB,Zlf,List.count_eq_zero_of_not_mem (fun q=>by simp only [decide_eq_false_iff_not] at hs;exact hs (ZiV.1 q).2)]
    rfl]
   rw [show (List.range c.length).filter (fun s=>decide (0<c.getD s 0))=usB c from rfl]
   have:=ZD9 (F:=fun s=>wt (Ziw s (Zh7 c q))) (fun s=>ZC5) (usB c)
   have hl:(usB c).length=(sgB c).length:=by rw [sgB,List.length_map]
   omega
theorem Zm4 [Tabs Tryz.prog] (nl:Bool) (c:List Nat) (q:Nat) (h:CtOk c q):Con Tryz.prog ZcE [.sl nl none (c.map nA),int (q:Int)] (cdA false (Zc5 c q)):=by
 refine Con.of' mix Tryz.func80 rfl Tryz.ntmps80 ZlR ZlS zB (by simp only [AV.free,AV.free.freeL,Zaa,int,Bool.and_self]) Zrx ?_
 unfold Zg7
 have hl:=ZpS nl (c.map Int.ofNat) (q:Int)
 rw [ZAA,ZAG h,if_neg zB,toNat_ofNat,←Zx5,Int.toNat_natCast] at hl
 have hc:=Zry false (Zc5 c q) (ZjD h)
 obtain ⟨l,hl2⟩:∃ l,l=Zc5 c q:=⟨_,rfl⟩
 rw [←hl2] at hl hc ⊢
 unfold cdA at hc
 repeat (first|refine zS ?_|exact zT)
 refine Zaz _ (.inl ⟨by simp only [AV.free,AV.free.freeL,Zaa,int,Bool.and_self],hl⟩) ?_
 repeat (first|refine zS ?_|exact zT)
 refine Zaz _ (.inl ⟨by simp only [AV.free,AV.free.freeL,Zaa,int,Bool.and_self],hc⟩) ?_
 repeat (first|refine zR @cdA.eq_1 ?_|exact zU @cdA.eq_1)
abbrev K3:=UInt8 × UInt8 × UInt8
def kA (k:K3):AV:=.agg [u8 k.1,u8 k.2.1,u8 k.2.2]
def enA (e:K3 × Nat):AV:=.tup [kA e.1,nA e.2]
theorem ZAH {a b:UInt8} (h:u8 a=u8 b):a=b:=by
 simp only [u8,AV.sc.injEq,Value.int.injEq,true_and] at h
 exact UInt8.toNat_inj.1 zO
theorem ZvX {a b:K3}:kA a=kA b↔a=b:=by
 constructor
 ·intro h
  obtain ⟨a1,a2,a3⟩:=a
  obtain ⟨b1,b2,b3⟩:=b
  simp only [kA,AV.agg.injEq,List.cons.injEq,and_true] at h
  rw [ZAH h.1,ZAH h.2.1,ZAH h.2.2]
 ·rintro rfl;rfl
def mfd (k:K3):List (K3 × Nat)→Option Nat
 | []=>none
 | e::m=>if k=e.1 then some e.2 else mfd k m
def mpt (k:K3) (p:Nat):List (K3 × Nat)→List (K3 × Nat)
 | []=>[(k,p)]
 | e::m=>if k=e.1 then (e.1,p)::m else e::mpt k p m
theorem ZvY {k:K3}:∀ {m:List (K3 × Nat)},Zj5 (kA k) (m.map enA)=(mfd k m).map nA
 | []=>rfl
 | e::m=>by
  rw [List.map_cons,enA,Zj5,mfd]
  by_cases c:k=e.1
  ·rw [if_pos (ZvX.2 c),if_pos c];rfl
  ·rw [if_neg (fun h=>c (ZvX.1 h)),if_neg c];exact ZvY
theorem ZAI {k:K3} {p:Nat}:∀ {m:List (K3 × Nat)},ZtA (kA k) (nA p) (m.map enA)=(mpt k p m).map enA
 | []=>rfl
 | e::m=>by
  rw [List.map_cons,enA,ZtA,mpt]
  by_cases c:k=e.1
  ·rw [if_pos (ZvX.2 c),if_pos c];rfl
  ·rw [if_neg (fun h=>c (ZvX.1 h)),if_neg c,List.map_cons,ZAI];rfl
abbrev z3:Value:=.agg #[.int .u8 0,.int .u8 0,.int .u8 0]
theorem ZuV {z:Int} {c:UInt8}:ZrW (.int .u8 z) (u8 c):=⟨rfl,Int.natCast_nonneg _,by have:=c.toNat_lt;show (c.toNat:Int)≤255;omega⟩
theorem ZEa {k:K3}:Zhu z3 (kA k):=⟨ZuV,ZuV,ZuV,trivial⟩
theorem ZAJ:∀ {m:List (K3 × Nat)},ZdT z3 (m.map enA)
 | []=>trivial
 | e::m=>⟨ZEa,ZAJ⟩
theorem ZvZ {m:List (K3 × Nat)}:ZdT z3 (m.map enA)=True:=eq_true ZAJ
theorem ZAK {k:K3}:Zhu z3 (.agg [u8 k.1,u8 k.2.1,u8 k.2.2])=True:=eq_true ZEa
def fdR (nl:Bool) (b:List UInt8) (t n:Nat):List AV:=[.sl nl none (b.map u8),.mp 1001 0,.own 1002 0 none 0 n,.sc (.int .i64 (t:Int))]
abbrev fdI (nl:Bool) (b:List UInt8) (t:Nat) (m:List (K3 × Nat)) (A:List Int):List AO:=[.row false (fdR nl b t A.length),.row false [.tup (m.map enA)],.row false (A.map int)]
abbrev fdO (nl:Bool) (b:List UInt8) (t:Nat) (m:List (K3 × Nat)) (A:List Int):List (Nat × Nat × AO):=[(1000,0,.row false (fdR nl b t A.length)),(1001,0,.row false [.tup (m.map enA)]),(1002,0,.row false (A.map int))]
theorem ZAL:∀ {m:List (K3 × Nat)},AV.free.freeL (m.map enA)=true:=fun {m}=>ZbB.2 fun x hx=>by
 obtain ⟨e,_,rfl⟩:=List.mem_map.1 hx;rfl
theorem Zfo {ρ:Nat→Nat→Nat × Nat} {m:List (K3 × Nat)}:ren.renL ρ (m.map enA)=m.map enA:=Zbm ρ _ ZAL
theorem ZAM {nl:Bool} {b:List UInt8} {t:Nat} {m:List (K3 × Nat)} {A:List Int}:∀ n cells,AO.row n cells∈fdI nl b t m A→AV.gl.glL 1 cells:=by
 intro n cells h
 simp only [List.mem_cons,AO.row.injEq,List.not_mem_nil,or_false] at h
 obtain ⟨-,rfl⟩ | ⟨-,rfl⟩ | ⟨-,rfl⟩:=h
 ·simp only [fdR,AV.gl.glL,AV.gl,and_true]
  exact ⟨Zag _ _ ZaD,by omega,by omega⟩
 ·simp only [AV.gl.glL,AV.gl,and_true]
  exact Zag _ _ ZAL
 ·exact Zag _ _ ZeT
def ZaF (b:List UInt8) (p:Int):Option K3:=if p<0∨(b.length:Int)-p<3 then none else some (b.getD p.toNat 0,b.getD (p.toNat+1) 0,b.getD (p.toNat+2) 0)
theorem ZIp {b:List UInt8} {p:Nat} (h:p+3≤b.length):((b.drop p).map u8).take 3=[u8 (b.getD p 0),u8 (b.getD (p+1) 0),u8 (b.getD (p+2) 0)]:=by
 rw [List.drop_eq_getElem_cons zO,List.drop_eq_getElem_cons zO,List.drop_eq_getElem_cons zO]
 simp only [List.map_cons,List.take_succ_cons,List.take_zero,List.getD,List.getElem?_eq_getElem (show p<b.length by omega),List.getElem?_eq_getElem (show p+1<b.length by omega),List.getElem?_eq_getElem (show p+2<b.length by omega),Option.getD_some]
theorem Zm5 [Tabs Tryz.prog] (nl:Bool) (b:List UInt8) (hb:b.length≤20000) (t:Nat) (m:List (K3 × Nat)) (A:List Int) (p:Int) (h1:-40000≤p) (h2:p≤20000) :
  HCon Tryz.prog ZbY [.op 1000 0 0,.sc (.int .i64 p)] (fdI nl b t m A) (.tup [kA ((ZaF b p).getD (0,0,0)),boo (ZaF b p).isSome]) (fdO nl b t m A) 3:=by
 refine HCon.of' mix Tryz.func121 rfl Tryz.ntmps121 Zi5 Zi6 zB (by simp [AV.gl,AV.gl.glL]) ZAM ?_
 unfold ZeG
 have hr0:(ZaF b p)=none→AV.tup [kA ((ZaF b p).getD (0,0,0)),boo (ZaF b p).isSome] = .tup [.agg [.sc (.int .u8 0),.sc (.int .u8 0),.sc (.int .u8 0)],boo false]:=fun h=>by rw [h];rfl
 by_cases c1:p<0
 ·have d1:=decide_eq_true c1
  rw [hr0 (if_pos (.inl c1))]
  repeat (first|refine zR (ja3 @d1 @fdR.eq_1 iR) ?_|exact zU (ja3 @d1 @fdR.eq_1 iR))
 have d1:=decide_eq_false c1
 obtain ⟨q,rfl⟩:∃ q:Nat,p=(q:Int):=⟨p.toNat,by omega⟩
 by_cases c2:(b.length:Int)-(q:Int)<3
 ·have d2:=decide_eq_true c2
  rw [hr0 (if_pos (.inr c2))]
  repeat (first|refine zR (ja5 @d1 @d2 @fdR.eq_1 iR @List.length_map.{0,0}) ?_|exact zU (ja5 @d1 @d2 @fdR.eq_1 iR @List.length_map.{0,0}))
 have d2:=decide_eq_false c2
 have hs:ZaF b (q:Int)=some (b.getD q 0,b.getD (q+1) 0,b.getD (q+2) 0):=by rw [ZaF,if_neg zO];rfl
 have hc:=ZIp (b:=b) (p:=q) zO
 have hdl:(b.drop q).length=b.length-q:=List.length_drop
 obtain ⟨x,hx⟩:∃ x,x=b.getD q 0:=⟨_,rfl⟩
 obtain ⟨y,hy⟩:∃ x,x=b.getD (q+1) 0:=⟨_,rfl⟩
 obtain ⟨z,hz⟩:∃ x,x=b.getD (q+2) 0:=⟨_,rfl⟩
 obtain ⟨r,hr⟩:∃ r,r=b.drop q:=⟨_,rfl⟩
 rw [←hx,←hy,←hz,←hr] at hc
 rw [←hx,←hy,←hz] at hs
 rw [←hr] at hdl
 have hrr:(b.map u8).drop q=r.map u8:=by rw [hr,List.map_drop]
 have hmin:min r.length 3=3:=zO
 have ho:AV.tup [kA ((ZaF b (q:Int)).getD (0,0,0)),boo (ZaF b (q:Int)).isSome] = .tup [.agg [u8 x,u8 y,u8 z],boo true]:=by rw [hs];rfl
 rw [ho]
 repeat (first|refine zR (ja8 @d1 @d2 @fdR.eq_1 iR @List.length_map.{0,0} @hrr @hc @hmin) ?_|exact zU (ja8 @d1 @d2 @fdR.eq_1 iR @List.length_map.{0,0} @hrr @hc @hmin))
def ZiW (b:List UInt8) (p q most:Nat):Nat:=((List.range most).takeWhile fun i=>b.getD (p+i) 0==b.getD (q+i) 0).length
theorem Zv0 {b:List UInt8} {p q most n:Nat} (hn:n≤most) (h:∀ i,i<n→b.getD (p+i) 0=b.getD (q+i) 0) (hx:n=most∨b.getD (p+n) 0≠b.getD (q+n) 0):ZiW b p q most=n:=by
 have e:List.range most=List.range n++(List.range (most-n)).map (n+·):=by
  have:=List.range_add (n:=n) (m:=most-n)
  rwa [show n+(most-n)=most by omega] at this
 unfold ZiW
 rw [e,List.takeWhile_append_of_pos (by
  intro i hi
  simp only [beq_iff_eq]
  exact h i (List.mem_range.1 hi)),List.length_append,List.length_range]
 have:(((List.range (most-n)).map (n+·)).takeWhile fun i=>b.getD (p+i) 0==b.getD (q+i) 0)=[]:=by
  rcases hx with hx | hx
  ·rw [hx,Nat.sub_self];rfl
  ·by_cases c:most-n=0
   ·rw [c];rfl
   ·rw [show most-n=(most-n-1)+1 by omega,List.range_succ_eq_map,List.map_cons,List.takeWhile_cons,if_neg]
    simpa using hx
 rw [this]
 rfl
theorem Zv1 {b:List UInt8} {p q most:Nat}:ZiW b p q most≤most:=by
 have:=(List.takeWhile_sublist (l:=List.range most) fun i=>b.getD (p+i) 0==b.getD (q+i) 0).length_le
 rwa [List.length_range] at this
theorem ZAN {b:List UInt8} {p q most i:Nat} (h:i<ZiW b p q most):b.getD (p+i) 0=b.getD (q+i) 0:=by
 have h2:=List.all_takeWhile (l:=List.range most) (p:=fun i=>b.getD (p+i) 0==b.getD (q+i) 0)
 have hp:=List.takeWhile_prefix (l:=List.range most) fun i=>b.getD (p+i) 0==b.getD (q+i) 0
 rw [List.all_eq_true] at h2
 have hm:=List.getElem_mem (l:=(List.range most).takeWhile fun i=>b.getD (p+i) 0==b.getD (q+i) 0) h
 have he:=hp.getElem h
 rw [List.getElem_range] at he
 rw [he] at hm
 simpa using h2 i hm
theorem Zyc [Tabs Tryz.prog] (nl:Bool) (b:List UInt8) (hb:b.length≤20000) (t:Nat) (m:List (K3 × Nat)) (A:List Int) (p q most:Nat) (hp:p+most≤b.length) (hq:q+most≤b.length) :
  HCon Tryz.prog Zey [.op 1000 0 0,.sc (.int .i64 (p:Int)),.sc (.int .i64 (q:Int)),.sc (.int .i64 (most:Int))] (fdI nl b t m A) (int (ZiW b p q most:Int)) (fdO nl b t m A) 1:=by
 refine HCon.of' mix Tryz.func120 rfl Tryz.ntmps120 Zi3 Zi4 zB (by simp [AV.gl,AV.gl.glL]) ZAM ?_
 unfold ZeF
 repeat (first|refine zS ?_|exact zT)
 refine SWp.loop (α:=Nat) (fun n=>mk 37 1 [(0,.op 1000 0 0),(1,.sc (.int .i64 (p:Int))),(2,.sc (.int .i64 (q:Int))),(3,.sc (.int .i64 (most:Int))),(9,int n)] (fdO nl b t m A))
  (fun n=>n≤most∧∀ i,i<n→b.getD (p+i) 0=b.getD (q+i) 0) (fun n=>most-n) 0 ⟨Nat.zero_le _,fun i h=>by omega⟩ (Zaj rfl ?_ ?_ ?_) ?_
 ·exact Nat.le_refl _
 iterate 2 (case _=>(first|exact yT|refine yS ?_))
 rintro n ⟨hn,heq⟩ -
 by_cases c:n<most
 ·have d:decide ((n:Int)<(most:Int))=true:=decide_eq_true zO
  have e1:(p:Int)+(n:Int)=((p+n:Nat):Int):=zO
  have e2:(q:Int)+(n:Int)=((q+n:Nat):Int):=zO
  obtain ⟨pn,hpn⟩:∃ x,x=p+n:=⟨_,rfl⟩
  obtain ⟨qn,hqn⟩:∃ x,x=q+n:=⟨_,rfl⟩
  rw [←hpn] at e1
  rw [←hqn] at e2
  have g1:(b.map u8).getD pn .junk=u8 (b.getD pn 0):=Zq8 zO
  have g2:(b.map u8).getD qn .junk=u8 (b.getD qn 0):=Zq8 zO
  obtain ⟨x,hx⟩:∃ x,x=b.getD pn 0:=⟨_,rfl⟩
  obtain ⟨y,hy⟩:∃ x,x=b.getD qn 0:=⟨_,rfl⟩
  rw [←hx] at g1
  rw [←hy] at g2
  by_cases cx:x=y
  ·have dx:decide ((x.toNat:Int)=(y.toNat:Int))=true:=decide_eq_true (by rw [cx])
   repeat (first|refine zR (ja8 @d @fdR.eq_1 iR @e1 @e2 @List.length_map.{0,0} @g1 (ja2 @g2 @dx)) ?_|exact zU (ja8 @d @fdR.eq_1 iR @e1 @e2 @List.length_map.{0,0} @g1 (ja2 @g2 @dx)))
   refine At.of (n+1) ⟨by omega,fun i hi=>?_⟩ zO rfl rfl (Nat.le_refl _) ?_ ?_
   ·by_cases ci:i=n
    ·subst ci;rw [←hpn,←hqn,←hx,←hy,cx]
    ·exact heq i zO
   iterate 2 (case _=>(first|exact yU @fdR.eq_1|refine yR @fdR.eq_1 ?_))
  ·have dx:decide ((x.toNat:Int)=(y.toNat:Int))=false:=decide_eq_false (fun h=>cx (UInt8.toNat_inj.1 zO))
   rw [Zv0 hn heq (.inr (by rw [←hpn,←hqn,←hx,←hy];exact cx))]
   repeat (first|refine zR (ja8 @d @fdR.eq_1 iR @e1 @e2 @List.length_map.{0,0} @g1 (ja2 @g2 @dx)) ?_|exact zU (ja8 @d @fdR.eq_1 iR @e1 @e2 @List.length_map.{0,0} @g1 (ja2 @g2 @dx)))
 ·have d:decide ((n:Int)<(most:Int))=false:=decide_eq_false zO
  rw [Zv0 hn heq (.inl zO)]
  repeat (first|refine zR (ja3 @d @fdR.eq_1 iR) ?_|exact zU (ja3 @d @fdR.eq_1 iR))
def Zfi (b:List UInt8) (m:List (K3 × Nat)) (p:Int):Int:=match ZaF b p with
 | some k=>(match mfd k m with
  | some q=>(q:Int)
  | none=>-32769)
 | none=>-32769
def BG3:=ja4 @fdR.eq_1 iR @Zfo @Zan
theorem Zmc [Tabs Tryz.prog] (nl:Bool) (b:List UInt8) (hb:b.length≤20000) (t:Nat) (m:List (K3 × Nat)) (A:List Int) (p:Int) (h1:-40000≤p) (h2:p≤20000) :
  HCon Tryz.prog Zcb [.op 1000 0 0,.sc (.int .i64 p)] (fdI nl b t m A) (int (Zfi b m p)) (fdO nl b t m A) 5:=by
 refine HCon.of' mix Tryz.func119 rfl Tryz.ntmps119 Zhn Zho zB (by simp [AV.gl,AV.gl.glL]) ZAM ?_
 unfold Zdz
 have st:=Zm5 nl b hb t m A p h1 h2
 cases hs:ZaF b p with
 | none =>
  have hl:Zfi b m p=-32769:=by rw [Zfi,hs]
  have ho:AV.tup [kA ((ZaF b p).getD (0,0,0)),boo (ZaF b p).isSome] = .tup [.agg [.sc (.int .u8 0),.sc (.int .u8 0),.sc (.int .u8 0)],boo false]:=by rw [hs];rfl
  rw [ho] at st
  rw [hl]
  repeat (first|refine zS ?_|exact zT)
  refine Zae [(1000,0),(1001,0),(1002,0)] 2000 st zB zB ?_ ?_ ?_
  iterate 2 (case _=>(first|exact yU BG3|refine yR BG3 ?_))
  repeat (first|refine zR BG3 ?_|exact zU BG3)
 | some k =>
  obtain ⟨x,y,z⟩:=k
  have ho:AV.tup [kA ((ZaF b p).getD (0,0,0)),boo (ZaF b p).isSome] = .tup [.agg [u8 x,u8 y,u8 z],boo true]:=by rw [hs];rfl
  rw [ho] at st
  have hm:Zj5 (.agg [.sc (.int .u8 (x.toNat:Int)),.sc (.int .u8 (y.toNat:Int)),.sc (.int .u8 (z.toNat:Int))]) (m.map enA)=(mfd (x,y,z) m).map nA:=ZvY (k:=(x,y,z))
  have hk:Zhu (.agg #[.int .u8 0,.int .u8 0,.int .u8 0]) (.agg [.sc (.int .u8 (x.toNat:Int)),.sc (.int .u8 (y.toNat:Int)),.sc (.int .u8 (z.toNat:Int))])=True:=ZAK (k:=(x,y,z))
  obtain ⟨e,he⟩:∃ e,e=m.map enA:=⟨_,rfl⟩
  have hen:ZdT (.agg #[.int .u8 0,.int .u8 0,.int .u8 0]) e=True:=by rw [he];exact ZvZ
  have hre:∀ ρ,ren.renL ρ e=e:=fun ρ=>by rw [he];exact Zfo
  rw [←he] at hm
  simp only [fdI,fdO,←he] at st ⊢
  cases hf:mfd (x,y,z) m with
  | none =>
   have hl:Zfi b m p=-32769:=by rw [Zfi,hs];simp only [hf]
   rw [hf] at hm
   rw [hl]
   simp only [Option.map_none] at hm
   repeat (first|refine zS ?_|exact zT)
   refine Zae [(1000,0),(1001,0),(1002,0)] 2000 st zB zB ?_ ?_ ?_
   iterate 2 (case _=>(first|exact yU (ja4 @fdR.eq_1 iR @hre @Zan)|refine yR (ja4 @fdR.eq_1 iR @hre @Zan) ?_))
   repeat (first|refine zR (ja8 @fdR.eq_1 iR @hre @Zan @hm @hk @hen (ja3 @Zi9.eq_1 @Zi9.eq_2 @Option.isSome_none.{0})) ?_|exact zU (ja8 @fdR.eq_1 iR @hre @Zan @hm @hk @hen (ja3 @Zi9.eq_1 @Zi9.eq_2 @Option.isSome_none.{0})))
  | some q =>
   have hl:Zfi b m p=(q:Int):=by rw [Zfi,hs];simp only [hf]
   rw [hf] at hm
   rw [hl]
   simp only [Option.map_some,nA] at hm
   repeat (first|refine zS ?_|exact zT)
   refine Zae [(1000,0),(1001,0),(1002,0)] 2000 st zB zB ?_ ?_ ?_
   iterate 2 (case _=>(first|exact yU (ja4 @fdR.eq_1 iR @hre @Zan)|refine yR (ja4 @fdR.eq_1 iR @hre @Zan) ?_))
   repeat (first|refine zR (ja8 @fdR.eq_1 iR @hre @Zan @hm @hk @hen (ja3 @Zi9.eq_1 @Zi9.eq_2 @Option.isSome_some.{0})) ?_|exact zU (ja8 @fdR.eq_1 iR @hre @Zan @hm @hk @hen (ja3 @Zi9.eq_1 @Zi9.eq_2 @Option.isSome_some.{0})))
def Zrz (b:List UInt8) (A:List Int) (at_ most:Nat):Nat→Int→Nat→Nat→Nat × Nat
 | 0,_,l,k=>(l,k)
 | t+1,p,l,k=>if 32768<(at_:Int)-p∨l=most then (l,k) else
  if l<ZiW b p.toNat at_ most then Zrz b A at_ most t (A.getD p.toNat 0) (ZiW b p.toNat at_ most) (at_-p.toNat)
  else Zrz b A at_ most t (A.getD p.toNat 0) l k
structure FInv (b:List UInt8) (m:List (K3 × Nat)) (A:List Int) (at_:Nat):Prop where
 len:A.length=b.length
 map:∀ e∈m,e.2<at_∧ZaF b (e.2:Int)=some e.1
 chain:∀ p,p<at_→(ZaF b (p:Int)).isSome=true→A.getD p 0=-32769∨(0≤A.getD p 0∧A.getD p 0<(p:Int)∧ZaF b (A.getD p 0)=ZaF b (p:Int))
theorem ZAO {k:K3} {q:Nat}:∀ {m:List (K3 × Nat)},mfd k m=some q→(k,q)∈m
 | [],h=>by simp [mfd] at h
 | e::m,h=>by
  rw [mfd] at h
  split at h
  ·rename_i c;cases h;rw [c];simp
  ·exact List.mem_cons_of_mem _ (ZAO h)
theorem Zn9 {b:List UInt8} {m:List (K3 × Nat)} {A:List Int} {at_:Nat} (h:FInv b m A at_):Zfi b m (at_:Int)=-32769∨(0≤Zfi b m (at_:Int)∧Zfi b m (at_:Int)<(at_:Int)∧ZaF b (Zfi b m (at_:Int))=ZaF b (at_:Int)∧(ZaF b (at_:Int)).isSome=true):=by
 cases hs:ZaF b (at_:Int) with
 | none=>exact .inl (by rw [Zfi,hs])
 | some k =>
  cases hf:mfd k m with
  | none=>exact .inl (by rw [Zfi,hs];simp only [hf])
  | some q =>
   have hl:Zfi b m (at_:Int)=(q:Int):=by rw [Zfi,hs];simp only [hf]
   obtain ⟨h1,h2⟩:=h.map _ (ZAO hf)
   rw [hl]
   exact .inr ⟨Int.natCast_nonneg _,Int.ofNat_lt.2 h1,h2,rfl⟩
def Zyd (b:List UInt8) (at_ most:Nat) (r:Nat × Nat):Prop:=r.1=0∨(3≤r.1∧r.1≤most∧1≤r.2∧r.2≤at_∧∀ i,i<r.1→b.getD (at_-r.2+i) 0=b.getD (at_+i) 0)
theorem ZAP {b:List UInt8} {p q:Int} (h:ZaF b p=ZaF b q) (hs:(ZaF b q).isSome=true) (hp:0≤p) (hq:0≤q):∀ i,i<3→b.getD (p.toNat+i) 0=b.getD (q.toNat+i) 0:=by
 have h1:ZaF b q=some (b.getD q.toNat 0,b.getD (q.toNat+1) 0,b.getD (q.toNat+2) 0):=by
  unfold ZaF at hs ⊢
  split at hs
  ·simp at hs
  ·rename_i c;rw [if_neg c]
 have h2:ZaF b p=some (b.getD p.toNat 0,b.getD (p.toNat+1) 0,b.getD (p.toNat+2) 0):=by
  rw [h1] at h
  unfold ZaF at h ⊢
  split at h
  ·simp at h
  ·rename_i c;rw [if_neg c]
 rw [h1,h2] at h
 simp only [Option.some.injEq,Prod.mk.injEq] at h
 intro i hi
 match i,hi with
 | 0,_=>exact h.1
 | 1,_=>exact h.2.1
 | 2,_=>exact h.2.2
theorem ZrA {b:List UInt8} {m:List (K3 × Nat)} {A:List Int} {at_ most:Nat} (h:FInv b m A at_) (hat:at_+most≤b.length) (h3:(ZaF b (at_:Int)).isSome=true→3≤most):∀ (t:Nat) (p:Int) (l k:Nat),
  (p=-32769∨(0≤p∧p<(at_:Int)∧ZaF b p=ZaF b (at_:Int)∧(ZaF b (at_:Int)).isSome=true))→Zyd b at_ most (l,k)→Zyd b at_ most (Zrz b A at_ most t p l k)
 | 0,p,l,k,_,hr=>hr
 | t+1,p,l,k,hp,hr=>by
  rw [Zrz]
  by_cases c:32768<(at_:Int)-p∨l=most
  ·rw [if_pos c];exact hr
  ·rw [if_neg c]
   rcases hp with hp | ⟨p0,p1,p2,p3⟩
   ·omega
   ·have hnext:A.getD p.toNat 0=-32769∨(0≤A.getD p.toNat 0∧A.getD p.toNat 0<(at_:Int)∧ZaF b (A.getD p.toNat 0)=ZaF b (at_:Int)∧(ZaF b (at_:Int)).isSome=true):=by
     have hc:=h.chain p.toNat zO (by rw [Int.toNat_of_nonneg p0,p2];exact p3)
     rw [Int.toNat_of_nonneg p0] at hc
     rcases hc with hc | ⟨q0,q1,q2⟩
     ·exact .inl hc
     ·exact .inr ⟨q0,by omega,by rw [q2,p2],p3⟩
    split
    ·rename_i hl
     refine ZrA h hat h3 t _ _ _ hnext (.inr ⟨?_,Zv1,by omega,by omega,fun i hi=>?_⟩)
     ·rcases Nat.lt_or_ge (ZiW b p.toNat at_ most) 3 with hlt | hge
      ·exfalso
       have hn3:=h3 p3
       have e3:=ZAP p2 p3 p0 (Int.natCast_nonneg _)
       obtain ⟨n,hn⟩:∃ n,n=ZiW b p.toNat at_ most:=⟨_,rfl⟩
       have hge:3≤ZiW b p.toNat at_ most:=by
        unfold ZiW
        have e:List.range most=List.range 3++(List.range (most-3)).map (3+·):=by
         have:=List.range_add (n:=3) (m:=most-3)
         rwa [show 3+(most-3)=most by omega] at this
        rw [e,List.takeWhile_append_of_pos (by
         intro i hi
         simp only [beq_iff_eq]
         have:=e3 i (List.mem_range.1 hi)
         simpa using this),List.length_append,List.length_range]
        omega
       omega
      ·exact hge
     ·rw [show at_-(at_-p.toNat)+i=p.toNat+i by omega]
      exact ZAN hi
    ·exact ZrA h hat h3 t _ _ _ hnext hr
set_option maxHeartbeats 1000000 in
theorem Ztd [Tabs Tryz.prog] (nl:Bool) (b:List UInt8) (hb:b.length≤20000) (t:Nat) (ht:t≤20000) (m:List (K3 × Nat)) (A:List Int) (at_:Nat) (hat:at_<b.length) (hI:FInv b m A at_) (R:Nat × Nat)
  (hR:R=Zrz b A at_ (min 258 (b.length-at_)) t (Zfi b m (at_:Int)) 0 0) :
  HCon Tryz.prog ZdU [.op 1000 0 0,.sc (.int .i64 (at_:Int))] (fdI nl b t m A) (.tup [.sc (.int .i64 (R.1:Int)),.sc (.int .i64 (R.2:Int))]) (fdO nl b t m A) 100000:=by
 refine HCon.of' mix Tryz.func78 rfl Tryz.ntmps78 ZhU ZhV zB (by simp [AV.gl,AV.gl.glL]) ZAM ?_
 unfold Zd1
 obtain ⟨most,hmost⟩:∃ x,x=min 258 (b.length-at_):=⟨_,rfl⟩
 have hmin:(if (b.length:Int)-(at_:Int)<258 then (b.length:Int)-(at_:Int) else 258)=(most:Int):=by
  split <;> omega
 have ll:=Zmc nl b hb t m A (at_:Int) zO zO
 have hp0:=Zn9 hI
 obtain ⟨p0,hp0e⟩:∃ x,x=Zfi b m (at_:Int):=⟨_,rfl⟩
 rw [←hmost,←hp0e] at hR
 rw [←hp0e] at ll hp0
 have hlen:=hI.len
 obtain ⟨e,he⟩:∃ e,e=m.map enA:=⟨_,rfl⟩
 have hre:∀ ρ,ren.renL ρ e=e:=fun ρ=>by rw [he];exact Zfo
 simp only [fdI,fdO,←he] at ll ⊢
 repeat (first|refine zR (ja4 @fdR.eq_1 iR @List.length_map.{0,0} @hmin) ?_|exact zU (ja4 @fdR.eq_1 iR @List.length_map.{0,0} @hmin))
 refine Zae [(1000,0),(1001,0),(1002,0)] 2000 ll zB zB ?_ ?_ ?_
 iterate 2 (case _=>(first|exact yU (ja4 @fdR.eq_1 iR @hre @Zan)|refine yR (ja4 @fdR.eq_1 iR @hre @Zan) ?_))
 repeat (first|refine zR (ja4 @fdR.eq_1 iR @hre @Zan) ?_|exact zU (ja4 @fdR.eq_1 iR @hre @Zan))
 refine SWp.loop (α:=Nat × Int × Nat × Nat × Nat) (fun x=>mk 63 x.2.2.2.2 [(0,.op 1000 0 0),(1,.sc (.int .i64 (at_:Int))),(4,int x.2.2.1),(5,int x.2.2.2.1),(6,int most),(7,.sc (.int .i64 x.2.1)),(23,int t),(24,int x.1)] (fdO nl b t m A))
  (fun x=>x.1≤t∧R=Zrz b A at_ most (t-x.1) x.2.1 x.2.2.1 x.2.2.2.1∧x.2.2.1≤258∧(x.2.1=-32769∨(0≤x.2.1∧x.2.1<(at_:Int)∧ZaF b x.2.1=ZaF b (at_:Int)∧(ZaF b (at_:Int)).isSome=true))∧x.2.2.2.2≤6+x.1) (fun x=>t-x.1) (0,p0,0,0,6) ⟨Nat.zero_le _,by simpa using hR,Nat.zero_le _,hp0,by simp⟩ (Zaj rfl ?_ ?_ ?_) ?_
 ·exact Nat.le_refl _
 iterate 2 (case _=>(first|exact yU (ja2 @fdR.eq_1 he.symm)|refine yR (ja2 @fdR.eq_1 he.symm) ?_))
 rintro ⟨i,p,l,k,gc⟩ ⟨hi,hRi,hl,hp,hgc⟩ -
 simp only at hi hRi hl hp hgc
 by_cases ci:i<t
 ·have di:decide ((i:Int)<(t:Int))=true:=decide_eq_true zO
  obtain ⟨j,hj⟩:∃ j,t-i=j+1:=⟨t-i-1,by omega⟩
  have hj2:t-(i+1)=j:=zO
  rw [hj,Zrz] at hRi
  by_cases c1:32768<(at_:Int)-p
  ·have d1:=decide_eq_true c1
   rw [if_pos (.inl c1)] at hRi
   rw [hRi]
   repeat (first|refine zR (ja5 @di @d1 @fdR.eq_1 iR he.symm) ?_|exact zU (ja5 @di @d1 @fdR.eq_1 iR he.symm))
   try omega
  have d1:=decide_eq_false c1
  by_cases c2:l=most
  ·have d2:decide ((l:Int)=(most:Int))=true:=decide_eq_true zO
   rw [if_pos (.inr c2)] at hRi
   rw [hRi]
   repeat (first|refine zR (ja6 @di @d1 @d2 @fdR.eq_1 iR he.symm) ?_|exact zU (ja6 @di @d1 @d2 @fdR.eq_1 iR he.symm))
   try omega
  have d2:decide ((l:Int)=(most:Int))=false:=decide_eq_false zO
  rw [if_neg zO] at hRi
  rcases hp with hp | ⟨hp0',hp1,hp2,hp3⟩
  ·omega
  obtain ⟨q,rfl⟩:∃ q:Nat,p=(q:Int):=⟨p.toNat,by omega⟩
  rw [Int.toNat_natCast] at hRi
  have al:=Zyc nl b hb t m A q at_ most zO zO
  have hale:=Zv1 (b:=b) (p:=q) (q:=at_) (most:=most)
  obtain ⟨n,hn⟩:∃ n,n=ZiW b q at_ most:=⟨_,rfl⟩
  rw [←hn] at al hRi hale
  have hrem:Int.tmod (q:Int) (A.length:Int)=(q:Int):=Int.tmod_eq_of_lt zO zO
  have hga:(A.map int).getD q .junk = .sc (.int .i64 (A.getD q 0)):=ZzU zO
  have hnext:A.getD q 0=-32769∨(0≤A.getD q 0∧A.getD q 0<(at_:Int)∧ZaF b (A.getD q 0)=ZaF b (at_:Int)∧(ZaF b (at_:Int)).isSome=true):=by
   rcases hI.chain q zO (by rw [hp2];exact hp3) with hc | ⟨q0,q1,q2⟩
   ·exact .inl hc
   ·exact .inr ⟨q0,by omega,by rw [q2,hp2],hp3⟩
  obtain ⟨nx,hnx⟩:∃ y,y=A.getD q 0:=⟨_,rfl⟩
  rw [←hnx] at hga hnext hRi
  have hnxb:-32769≤nx∧nx≤20000:=zO
  have hA0:decide ((A.length:Int)=0)=false:=decide_eq_false zO
  simp only [fdI,fdO,←he] at al
  repeat (first|refine zR (ja6 @di @d1 @d2 @fdR.eq_1 iR he.symm) ?_|exact zU (ja6 @di @d1 @d2 @fdR.eq_1 iR he.symm))
  refine Zae [(1000,0),(1001,0),(1002,0)] 2000 al zB zB ?_ ?_ ?_
  iterate 2 (case _=>(first|exact yU (ja5 @fdR.eq_1 iR @hre @Zan he.symm)|refine yR (ja5 @fdR.eq_1 iR @hre @Zan he.symm) ?_))
  by_cases c3:l<n
  ·have d3:decide ((l:Int)<(n:Int))=true:=decide_eq_true zO
   have hk:(at_:Int)-(q:Int)=((at_-q:Nat):Int):=zO
   obtain ⟨kk,hkk⟩:∃ y,y=at_-q:=⟨_,rfl⟩
   rw [←hkk] at hk hRi
   rw [if_pos c3] at hRi
   repeat (first|refine zR (ja8 @fdR.eq_1 iR @hre @Zan @d3 @hk @hrem (ja2 @hga @List.length_map.{0,0})) ?_|exact zU (ja8 @fdR.eq_1 iR @hre @Zan @d3 @hk @hrem (ja2 @hga @List.length_map.{0,0})))
   refine At.of (i+1,nx,n,kk,gc+1) ⟨by simp only;omega,by simp only;rw [hj2];exact hRi,by simp only;omega,hnext,by simp only;omega⟩ (by simp only;omega) rfl rfl (Nat.le_refl _) ?_ ?_
   iterate 2 (case _=>(first|exact yU (ja3 hnx.symm @fdR.eq_1 he.symm)|refine yR (ja3 hnx.symm @fdR.eq_1 he.symm) ?_))
  ·have d3:decide ((l:Int)<(n:Int))=false:=decide_eq_false zO
   rw [if_neg c3] at hRi
   repeat (first|refine zR (ja8 @fdR.eq_1 iR @hre @Zan @d3 @hrem @hga @List.length_map.{0,0}) ?_|exact zU (ja8 @fdR.eq_1 iR @hre @Zan @d3 @hrem @hga @List.length_map.{0,0}))
   refine At.of (i+1,nx,l,k,gc+1) ⟨by simp only;omega,by simp only;rw [hj2];exact hRi,by simp only;omega,hnext,by simp only;omega⟩ (by simp only;omega) rfl rfl (Nat.le_refl _) ?_ ?_
   iterate 2 (case _=>(first|exact yU (ja3 hnx.symm @fdR.eq_1 he.symm)|refine yR (ja3 hnx.symm @fdR.eq_1 he.symm) ?_))
 ·have di:decide ((i:Int)<(t:Int))=false:=decide_eq_false zO
  rw [show t-i=0 by omega,Zrz] at hRi
  rw [hRi]
  repeat (first|refine zR (ja4 @di @fdR.eq_1 iR he.symm) ?_|exact zU (ja4 @di @fdR.eq_1 iR he.symm))
  try omega
def Zyt (b:List UInt8) (m:List (K3 × Nat)) (A:List Int) (p:Nat):List Int:=if (ZaF b (p:Int)).isSome then A.set p (Zfi b m (p:Int)) else A
def ZDv (b:List UInt8) (m:List (K3 × Nat)) (p:Nat):List (K3 × Nat):=match ZaF b (p:Int) with
 | some k=>mpt k p m
 | none=>m
theorem ZAQ {k:K3} {p:Nat} {e:K3 × Nat}:∀ {m:List (K3 × Nat)},e∈mpt k p m→e=(k,p)∨e∈m
 | [],h=>by simp only [mpt,List.mem_singleton] at h;exact .inl h
 | a::m,h=>by
  rw [mpt] at h
  split at h
  ·rename_i c
   rcases List.mem_cons.1 h with h | h
   ·left;rw [h,c]
   ·exact .inr (List.mem_cons_of_mem _ h)
  ·rcases List.mem_cons.1 h with h | h
   ·right;rw [h];exact List.mem_cons_self ..
   ·exact (ZAQ h).imp id (List.mem_cons_of_mem _)
theorem FInv.add {b:List UInt8} {m:List (K3 × Nat)} {A:List Int} {p:Nat} (h:FInv b m A p) (hp:p<b.length):FInv b (ZDv b m p) (Zyt b m A p) (p+1):=by
 refine ⟨?_,?_,?_⟩
 ·unfold Zyt;split
  ·rw [List.length_set];exact h.len
  ·exact h.len
 ·intro e he
  unfold ZDv at he
  split at he
  ·rename_i k hk
   rcases ZAQ he with rfl | he
   ·exact ⟨by simp only;omega,hk⟩
   ·obtain ⟨h1,h2⟩:=h.map e he
    exact ⟨by omega,h2⟩
  ·obtain ⟨h1,h2⟩:=h.map e he
   exact ⟨by omega,h2⟩
 ·intro q hq hs
  by_cases c:q=p
  ·subst c
   unfold Zyt
   rw [if_pos hs]
   have e:(A.set q (Zfi b m (q:Int))).getD q 0=Zfi b m (q:Int):=by
    have:q<A.length:=by rw [h.len];exact hp
    simp [List.getD,this]
   rw [e]
   rcases Zn9 h with h1 | ⟨h1,h2,h3,_⟩
   ·exact .inl h1
   ·exact .inr ⟨h1,h2,h3⟩
  ·have e:(Zyt b m A p).getD q 0=A.getD q 0:=by
    unfold Zyt
    split
    ·simp [List.getD,List.getElem?_set_ne (Ne.symm c)]
    ·rfl
   rw [e]
   exact h.chain q zO hs
theorem FInv.start {b:List UInt8}:FInv b [] (List.replicate b.length 0) 0:=⟨by simp,by simp,fun p hp=>by omega⟩
set_option maxHeartbeats 1000000 in
theorem ZDw [Tabs Tryz.prog] (nl:Bool) (b:List UInt8) (hb:b.length≤20000) (t:Nat) (m:List (K3 × Nat)) (A:List Int) (hA:A.length=b.length) (p:Nat) (hp:p<b.length) (hlast:-32769≤Zfi b m (p:Int)∧Zfi b m (p:Int)≤20000) :
  HCon Tryz.prog Zft [.op 1000 0 0,.sc (.int .i64 (p:Int))] (fdI nl b t m A) (.tup []) (fdO nl b t (ZDv b m p) (Zyt b m A p)) 14:=by
 refine HCon.of' mix Tryz.func79 rfl Tryz.ntmps79 Zks Zkt zB (by simp [AV.gl,AV.gl.glL]) ZAM ?_
 unfold ZfJ
 have pso:=Zm5 nl b hb t m A ((p:Int)-32768) zO zO
 have hso:ZaF b ((p:Int)-32768)=none:=if_pos (.inl zO)
 have hoo:AV.tup [kA ((ZaF b ((p:Int)-32768)).getD (0,0,0)),boo (ZaF b ((p:Int)-32768)).isSome] = .tup [.agg [.sc (.int .u8 0),.sc (.int .u8 0),.sc (.int .u8 0)],boo false]:=by rw [hso];rfl
 rw [hoo] at pso
 have psn:=Zm5 nl b hb t m A (p:Int) zO zO
 have ll:=Zmc nl b hb t m A (p:Int) zO zO
 obtain ⟨e,he⟩:∃ e,e=m.map enA:=⟨_,rfl⟩
 have hre:∀ ρ,ren.renL ρ e=e:=fun ρ=>by rw [he];exact Zfo
 cases hs:ZaF b (p:Int) with
 | none =>
  have ho:AV.tup [kA ((ZaF b (p:Int)).getD (0,0,0)),boo (ZaF b (p:Int)).isSome] = .tup [.agg [.sc (.int .u8 0),.sc (.int .u8 0),.sc (.int .u8 0)],boo false]:=by rw [hs];rfl
  rw [ho] at psn
  have eM:ZDv b m p=m:=by rw [ZDv,hs]
  have eA:Zyt b m A p=A:=by rw [Zyt,hs];rfl
  rw [eM,eA]
  simp only [fdI,fdO,←he] at pso psn ⊢
  repeat (first|refine zS ?_|exact zT)
  refine Zae [(1000,0),(1001,0),(1002,0)] 2000 pso zB zB ?_ ?_ ?_
  iterate 2 (case _=>(first|exact yU (ja4 @fdR.eq_1 iR @hre @Zan)|refine yR (ja4 @fdR.eq_1 iR @hre @Zan) ?_))
  repeat (first|refine zR (ja4 @fdR.eq_1 iR @hre @Zan) ?_|exact zU (ja4 @fdR.eq_1 iR @hre @Zan))
  refine Zae [(1000,0),(1001,0),(1002,0)] 3000 psn zB zB ?_ ?_ ?_
  iterate 2 (case _=>(first|exact yU (ja4 @fdR.eq_1 iR @hre @Zan)|refine yR (ja4 @fdR.eq_1 iR @hre @Zan) ?_))
  repeat (first|refine zR (ja4 @fdR.eq_1 iR @hre @Zan) ?_|exact zU (ja4 @fdR.eq_1 iR @hre @Zan))
 | some k =>
  obtain ⟨x,y,z⟩:=k
  have ho:AV.tup [kA ((ZaF b (p:Int)).getD (0,0,0)),boo (ZaF b (p:Int)).isSome] = .tup [.agg [u8 x,u8 y,u8 z],boo true]:=by rw [hs];rfl
  rw [ho] at psn
  have eM:ZDv b m p=mpt (x,y,z) p m:=by rw [ZDv,hs]
  obtain ⟨la,hla⟩:∃ la,la=Zfi b m (p:Int):=⟨_,rfl⟩
  rw [←hla] at ll hlast
  have eA:Zyt b m A p=A.set p la:=by rw [Zyt,hs,hla];rfl
  rw [eM,eA]
  have hput:ZtA (.agg [.sc (.int .u8 (x.toNat:Int)),.sc (.int .u8 (y.toNat:Int)),.sc (.int .u8 (z.toNat:Int))]) (.sc (.int .i64 (p:Int))) e=(mpt (x,y,z) p m).map enA:=by rw [he];exact ZAI (k:=(x,y,z))
  have hk:Zhu (.agg #[.int .u8 0,.int .u8 0,.int .u8 0]) (.agg [.sc (.int .u8 (x.toNat:Int)),.sc (.int .u8 (y.toNat:Int)),.sc (.int .u8 (z.toNat:Int))])=True:=ZAK (k:=(x,y,z))
  have hen:ZdT (.agg #[.int .u8 0,.int .u8 0,.int .u8 0]) e=True:=by rw [he];exact ZvZ
  have hrem:Int.tmod (p:Int) (A.length:Int)=(p:Int):=Int.tmod_eq_of_lt zO zO
  have hset:(A.take p).map int++(.sc (.int .i64 la)::(A.drop (p+1)).map int)=(A.set p la).map int:=ZzW zO
  have hsl:(A.set p la).length=A.length:=List.length_set
  obtain ⟨e',he'⟩:∃ e',e'=(mpt (x,y,z) p m).map enA:=⟨_,rfl⟩
  rw [←he'] at hput
  simp only [fdI,fdO,←he,←he'] at pso psn ll ⊢
  repeat (first|refine zS ?_|exact zT)
  refine Zae [(1000,0),(1001,0),(1002,0)] 2000 pso zB zB ?_ ?_ ?_
  iterate 2 (case _=>(first|exact yU (ja4 @fdR.eq_1 iR @hre @Zan)|refine yR (ja4 @fdR.eq_1 iR @hre @Zan) ?_))
  repeat (first|refine zR (ja4 @fdR.eq_1 iR @hre @Zan) ?_|exact zU (ja4 @fdR.eq_1 iR @hre @Zan))
  refine Zae [(1000,0),(1001,0),(1002,0)] 3000 psn zB zB ?_ ?_ ?_
  iterate 2 (case _=>(first|exact yU (ja4 @fdR.eq_1 iR @hre @Zan)|refine yR (ja4 @fdR.eq_1 iR @hre @Zan) ?_))
  repeat (first|refine zR (ja6 @fdR.eq_1 iR @hre @Zan @List.length_map.{0,0} @hrem) ?_|exact zU (ja6 @fdR.eq_1 iR @hre @Zan @List.length_map.{0,0} @hrem))
  refine Zae [(1000,0),(1001,0),(1002,0)] 4000 ll zB zB ?_ ?_ ?_
  iterate 2 (case _=>(first|exact yU (ja4 @fdR.eq_1 iR @hre @Zan)|refine yR (ja4 @fdR.eq_1 iR @hre @Zan) ?_))
  repeat (first|refine zR (ja8 @fdR.eq_1 iR @hre @Zan @List.length_map.{0,0} @hrem @hset (ja4 @hen @hk @hput @hsl)) ?_|exact zU (ja8 @fdR.eq_1 iR @hre @Zan @List.length_map.{0,0} @hrem @hset (ja4 @hen @hk @hput @hsl)))
def Zmq (v:Nat):Nat:=(List.range 17).countP fun k=>decide (2^k≤v)
theorem ZAR {i:Nat} (h:i<256):([0,1,2,2,3,3,3,3,4,4,4,4,4,4,4,4,5,5,5,5,5,5,5,5,5,5,5,5,5,5,5,5,6,6,6,6,6,6,6,6,6,6,6,6,6,6,6,6,6,6,6,6,6,6,6,6,6,6,6,6,6,6,6,6,7,7,7,7,7,7,7,7,7,7,7,7,7,7,7,7,7,7,7,7,7,7,7,7,7,7,7,7,7,7,7,7,7,7,7,7,7,7,7,7,7,7,7,7,7,7,7,7,7,7,7,7,7,7,7,7,7,7,7,7,7,7,7,7,8,8,8,8,8,8,8,8,8,8,8,8,8,8,8,8,8,8,8,8,8,8,8,8,8,8,8,8,8,8,8,8,8,8,8,8,8,8,8,8,8,8,8,8,8,8,8,8,8,8,8,8,8,8,8,8,8,8,8,8,8,8,8,8,8,8,8,8,8,8,8,8,8,8,8,8,8,8,8,8,8,8,8,8,8,8,8,8,8,8,8,8,8,8,8,8,8,8,8,8,8,8,8,8,8,8,8,8,8,8,8,8,8,8,8,8,8,8,8,8,8,8,8,8,8,8,8,8]:List UInt8).getD i 0=UInt8.ofNat (Zmq i) :=
 (by decide +kernel:∀ i,i<256→([0,1,2,2,3,3,3,3,4,4,4,4,4,4,4,4,5,5,5,5,5,5,5,5,5,5,5,5,5,5,5,5,6,6,6,6,6,6,6,6,6,6,6,6,6,6,6,6,6,6,6,6,6,6,6,6,6,6,6,6,6,6,6,6,7,7,7,7,7,7,7,7,7,7,7,7,7,7,7,7,7,7,7,7,7,7,7,7,7,7,7,7,7,7,7,7,7,7,7,7,7,7,7,7,7,7,7,7,7,7,7,7,7,7,7,7,7,7,7,7,7,7,7,7,7,7,7,7,8,8,8,8,8,8,8,8,8,8,8,8,8,8,8,8,8,8,8,8,8,8,8,8,8,8,8,8,8,8,8,8,8,8,8,8,8,8,8,8,8,8,8,8,8,8,8,8,8,8,8,8,8,8,8,8,8,8,8,8,8,8,8,8,8,8,8,8,8,8,8,8,8,8,8,8,8,8,8,8,8,8,8,8,8,8,8,8,8,8,8,8,8,8,8,8,8,8,8,8,8,8,8,8,8,8,8,8,8,8,8,8,8,8,8,8,8,8,8,8,8,8,8,8,8,8,8,8]:List UInt8).getD i 0=UInt8.ofNat (Zmq i)) i h
theorem ZuW {v:Nat}:Zmq v≤17:=Nat.le_trans List.countP_le_length zB
theorem Zqy {v:Nat} (h:v<256):Zmq v≤8:=(by decide +kernel:∀ i,i<256→Zmq i≤8) v h
theorem Zye {v:Nat} (h:256≤v) (h2:v<65536):Zmq v=8+Zmq (v / 256):=by
 have e:List.range 17=List.range 8++(List.range 9).map (8+·):=by decide
 have e9:List.range 17=List.range 9++(List.range 8).map (9+·):=by decide
 have h1:Zmq v=8+((List.range 9).map (8+·)).countP (fun k=>decide (2^k≤v)):=by
  unfold Zmq
  rw [e,List.countP_append]
  congr 1
  rw [List.countP_eq_length.2]
  ·simp
  ·intro k hk
   have hk:=List.mem_range.1 hk
   have:2^k≤2^8:=Nat.pow_le_pow_right zO zO
   simp only [decide_eq_true_eq];omega
 have h3:Zmq (v / 256)=(List.range 9).countP (fun k=>decide (2^k≤v / 256)):=by
  unfold Zmq
  rw [e9,List.countP_append]
  have:((List.range 8).map (9+·)).countP (fun k=>decide (2^k≤v / 256))=0:=by
   rw [List.countP_eq_zero]
   intro k hk
   rw [List.mem_map] at hk
   obtain ⟨j,_,rfl⟩:=hk
   have:2^9≤2^(9+j):=Nat.pow_le_pow_right zO zO
   simp only [decide_eq_true_eq];omega
  omega
 rw [h1,h3,List.countP_map]
 congr 1
 refine List.countP_congr fun k hk=>?_
 simp only [Function.comp,decide_eq_true_eq]
 rw [Nat.pow_add,show (2:Nat)^8=256 from rfl,Nat.le_div_iff_mul_le zO,Nat.mul_comm]
set_option maxHeartbeats 1000000 in
theorem Zte [Tabs Tryz.prog] (v:Nat) (hv:v<65536):Con Tryz.prog Znl [.sc (.int .u64 (v:Int))] (int (Zmq v:Int)):=by
 refine Con.of' mix Tryz.func146 rfl Tryz.ntmps146 ZsA ZsB zB rfl rfl ?_
 unfold Zns
 have d1:decide ((4294967296:Int)≤(v:Int))=false:=decide_eq_false zO
 have d2:decide ((65536:Int)≤(v:Int))=false:=decide_eq_false zO
 by_cases c:256≤v
 ·have d3:decide ((256:Int)≤(v:Int))=true:=decide_eq_true zO
  have hs:=Zye c hv
  obtain ⟨w,hw⟩:∃ w,w=v / 256:=⟨_,rfl⟩
  have hw2:w<256:=zO
  have ht:=ZAR hw2
  have hbl:=Zqy hw2
  have hu:((UInt8.ofNat (Zmq w)).toNat:Int)=(Zmq w:Int):=by rw [UInt8.toNat_ofNat'];omega
  rw [hs,←hw]
  obtain ⟨y,hy⟩:∃ y,y=Zmq w:=⟨_,rfl⟩
  rw [←hy] at hbl hu ht ⊢
  have hwu:IntKind.u8.wrap (w:Int)=(w:Int):=ZmD zO zO
  have ef:((v:Int).fdiv (2^8))=(w:Int):=by rw [hw];exact (Int.fdiv_eq_ediv_of_nonneg _ zO).trans (by norm_cast)
  repeat (first|refine xR (ja7 @d1 @d2 @d3 hw.symm @hwu @ht @hu) ?_|exact xU (ja7 @d1 @d2 @d3 hw.symm @hwu @ht @hu))
 ·have d3:decide ((256:Int)≤(v:Int))=false:=decide_eq_false zO
  have ht:=ZAR (i:=v) zO
  have hbl:=Zqy (v:=v) zO
  have hu:((UInt8.ofNat (Zmq v)).toNat:Int)=(Zmq v:Int):=by rw [UInt8.toNat_ofNat'];omega
  obtain ⟨y,hy⟩:∃ y,y=Zmq v:=⟨_,rfl⟩
  rw [←hy] at hbl hu ht ⊢
  have hwu:IntKind.u8.wrap (v:Int)=(v:Int):=ZmD zO zO
  repeat (first|refine xR (ja6 @d1 @d2 @d3 @hwu @ht @hu) ?_|exact xU (ja6 @d1 @d2 @d3 @hwu @ht @hu))
theorem Zyf [Tabs Tryz.prog] (v:Nat) (hv:v<65536):Con Tryz.prog Zqj [.sc (.int .u64 (v:Int))] (int (Zmq v:Int)):=by
 refine Con.of' mix Tryz.func140 rfl Tryz.ntmps140 ZxR ZxS zB rfl rfl ?_
 unfold Zqm
 repeat (first|refine xS ?_|exact xT)
 refine Zaz _ (.inl ⟨rfl,Zte v hv⟩) ?_
 repeat (first|refine xS ?_|exact xT)
def ZbO (v h:Nat):Nat:=Zmq v-1-h
def Zi7 (v h:Nat):Nat:=ZbO v h*2^h+v / 2^ZbO v h
theorem ZDx {v w:Nat}:((v:Int).fdiv (2^w))=((v / 2^w:Nat):Int):=by
 rw [Int.fdiv_eq_ediv_of_nonneg _ (Int.le_of_lt (Int.pow_pos zO))]
 norm_cast
theorem Zqz [Tabs Tryz.prog] (v:Nat) (hv:v<65536) (h:Nat) (hh:h=1∨h=2):Con Tryz.prog Zd9 [.sc (.int .i64 (v:Int)),.sc (.int .i64 (h:Int))] (.agg [.sc (.int .i64 (Zi7 v h:Int)),.sc (.int .i64 (v:Int)),.sc (.int .i64 (ZbO v h:Int))]):=by
 refine Con.of' mix Tryz.func115 rfl Tryz.ntmps115 ZlW ZlX zB rfl rfl ?_
 unfold Zg9
 have wu:IntKind.u64.wrap (v:Int)=(v:Int):=Zbg zO zO
 have hb:=ZuW (v:=v)
 obtain ⟨l,hl⟩:∃ l,l=ZbO v h:=⟨_,rfl⟩
 have hmx:(if (0:Int)<(Zmq v:Int)-1-(h:Int) then (Zmq v:Int)-1-(h:Int) else 0)=(l:Int):=by
  rw [hl,ZbO]
  split <;> omega
 have hll:l≤17:=by rw [hl,ZbO];omega
 obtain ⟨q,hq⟩:∃ q,q=v / 2^l:=⟨_,rfl⟩
 have hql:q≤v:=by rw [hq];exact Nat.div_le_self _ _
 have eq1:((v:Int).fdiv (2^l))=(q:Int):=by rw [hq];exact ZDx
 have hN:Zi7 v h=l*2^h+q:=by rw [Zi7,←hl,←hq]
 rw [hN,←hl]
 clear eq1
 repeat (first|refine xR @wu ?_|exact xU @wu)
 refine Zaz _ (.inl ⟨rfl,Zyf v hv⟩) ?_
 rcases hh with rfl | rfl
 ·have hmx:(if (0:Int)<(Zmq v:Int)-1-1 then (Zmq v:Int)-1-1 else 0)=(l:Int):=hmx
  repeat (first|refine xR (ja2 @hmx hq.symm) ?_|exact xU (ja2 @hmx hq.symm))
 ·have hmx:(if (0:Int)<(Zmq v:Int)-1-2 then (Zmq v:Int)-1-2 else 0)=(l:Int):=hmx
  repeat (first|refine xR (ja2 @hmx hq.symm) ?_|exact xU (ja2 @hmx hq.symm))
def pcA (p:Nat × Nat):AV:=.agg [.sc (.int .u16 (p.1:Int)),.sc (.int .u16 (p.2:Int))]
def Zlg (p:Nat × Nat):Prop:=(p.2=0∧p.1<256)∨(0<p.2∧p.2≤32768∧3≤p.1∧p.1≤258)
def syA (s:Nat × Nat × Nat):AV:=.agg [.sc (.int .i64 (s.1:Int)),.sc (.int .i64 (s.2.1:Int)),.sc (.int .i64 (s.2.2:Int))]
def Ziy (p:Nat × Nat):Nat × Nat × Nat:=if p.2=0 then (p.1,0,0) else if p.1=258 then (285,0,0) else (Zi7 (p.1-3) 2+257,p.1-3,ZbO (p.1-3) 2)
def Znx (p:Nat × Nat):Nat × Nat × Nat:=(Zi7 (p.2-1) 1,p.2-1,ZbO (p.2-1) 1)
theorem Zeo {l:List (Nat × Nat)}:AV.free.freeL (l.map pcA)=true:=ZbB.2 fun x hx=>by
 obtain ⟨p,_,rfl⟩:=List.mem_map.1 hx;rfl
theorem ZuX [Tabs Tryz.prog] (p:Nat × Nat):Con Tryz.prog Zb6 [pcA p] (boo (decide (0<p.2))):=by
 refine Con.of' mix Tryz.func72 rfl Tryz.ntmps72 Zjo Zjp zB rfl rfl ?_
 unfold Zfb
 have e:decide ((0:Int)<(p.2:Int))=decide (0<p.2):=by simp only [decide_eq_decide];omega
 repeat (first|refine xR (ja2 @pcA.eq_1 @e) ?_|exact xU (ja2 @pcA.eq_1 @e))
theorem Ztf [Tabs Tryz.prog] (p:Nat × Nat) (hp:Zlg p):Con Tryz.prog Zcp [pcA p] (syA (Ziy p)):=by
 refine Con.of' mix Tryz.func71 rfl Tryz.ntmps71 Zis Zit zB rfl rfl ?_
 unfold Zeh
 have ir:=ZuX p
 obtain ⟨v,b⟩:=p
 simp only [Zlg] at hp
 by_cases c:b=0
 ·subst c
  have wi:IntKind.i64.wrap (v:Int)=(v:Int):=Zcn zO zO
  rw [show decide (0<(v,0).2)=false from rfl] at ir
  have hr:syA (Ziy (v,0)) = .agg [.sc (.int .i64 (v:Int)),.sc (.int .i64 0),.sc (.int .i64 0)]:=rfl
  rw [hr]
  repeat (first|refine xR @pcA.eq_1 ?_|exact xU @pcA.eq_1)
  refine Zaz _ (.inl ⟨rfl,ir⟩) ?_
  repeat (first|refine xR (ja2 @pcA.eq_1 @wi) ?_|exact xU (ja2 @pcA.eq_1 @wi))
 ·rw [show decide (0<(v,b).2)=true from decide_eq_true (by simp only;omega)] at ir
  by_cases c2:v=258
  ·subst c2
   have hr:syA (Ziy (258,b)) = .agg [.sc (.int .i64 285),.sc (.int .i64 0),.sc (.int .i64 0)]:=by simp only [Ziy,if_neg c,if_true];rfl
   have d2:decide (((258:Nat):Int)=258)=true:=rfl
   rw [hr]
   repeat (first|refine xR @pcA.eq_1 ?_|exact xU @pcA.eq_1)
   refine Zaz _ (.inl ⟨rfl,ir⟩) ?_
   repeat (first|refine xR (ja2 @pcA.eq_1 @d2) ?_|exact xU (ja2 @pcA.eq_1 @d2))
  ·have d2:decide ((v:Int)=258)=false:=decide_eq_false zO
   have hv3:3≤v∧v<258:=zO
   obtain ⟨w,hw⟩:∃ w,w=v-3:=⟨_,rfl⟩
   have ew:(v:Int)-3=(w:Int):=zO
   have hr:syA (Ziy (v,b)) = .agg [.sc (.int .i64 ((Zi7 w 2+257:Nat):Int)),.sc (.int .i64 (w:Int)),.sc (.int .i64 (ZbO w 2:Int))]:=by simp only [Ziy,if_neg c,if_neg c2,←hw];rfl
   have wi:IntKind.i64.wrap (v:Int)=(v:Int):=Zcn zO zO
   have sy:=Zqz w zO 2 (.inr rfl)
   have hsl:ZbO w 2≤17:=by have:=ZuW (v:=w);rw [ZbO];omega
   have hsn:Zi7 w 2≤1000:=by
    have:w / 2^ZbO w 2≤w:=Nat.div_le_self _ _
    rw [Zi7];omega
   obtain ⟨N,hN⟩:∃ N,N=Zi7 w 2:=⟨_,rfl⟩
   obtain ⟨l,hl⟩:∃ l,l=ZbO w 2:=⟨_,rfl⟩
   rw [←hN,←hl] at sy hr
   rw [←hN] at hsn
   rw [hr]
   repeat (first|refine xR @pcA.eq_1 ?_|exact xU @pcA.eq_1)
   refine Zaz _ (.inl ⟨rfl,ir⟩) ?_
   repeat (first|refine xR (ja4 @pcA.eq_1 @d2 @wi @ew) ?_|exact xU (ja4 @pcA.eq_1 @d2 @wi @ew))
   refine Zaz _ (.inl ⟨rfl,sy⟩) ?_
   repeat (first|refine xS ?_|exact xT)
theorem ZqA [Tabs Tryz.prog] (p:Nat × Nat) (h1:0<p.2) (h2:p.2≤32768):Con Tryz.prog Zcl [pcA p] (syA (Znx p)):=by
 refine Con.of' mix Tryz.func73 rfl Tryz.ntmps73 ZhS ZhT zB rfl rfl ?_
 unfold Zd0
 obtain ⟨v,b⟩:=p
 simp only at h1 h2
 obtain ⟨w,hw⟩:∃ w,w=b-1:=⟨_,rfl⟩
 have ew:(b:Int)-1=(w:Int):=zO
 have wi:IntKind.i64.wrap (b:Int)=(b:Int):=Zcn zO zO
 have sy:=Zqz w zO 1 (.inl rfl)
 have hr:syA (Znx (v,b)) = .agg [.sc (.int .i64 (Zi7 w 1:Int)),.sc (.int .i64 (w:Int)),.sc (.int .i64 (ZbO w 1:Int))]:=by simp only [Znx,←hw];rfl
 rw [hr]
 repeat (first|refine xR (ja3 @pcA.eq_1 @wi @ew) ?_|exact xU (ja3 @pcA.eq_1 @wi @ew))
 refine Zaz _ (.inl ⟨rfl,sy⟩) ?_
 repeat (first|refine xS ?_|exact xT)
end Go.Proofs.YtfplkgciebjehabGreatDoor.Aw
namespace Go.Proofs.YtfplkgciebjehabGreatDoor.Aw
open Go
set_option linter.defProp false
set_option maxRecDepth 100000
set_option linter.unusedSimpArgs false
set_option linter.unusedVariables false
set_option linter.defProp false
def ZEb (k:Nat):List AO→List (Nat × Nat × AO)
 | []=>[]
 | a::l=>(k,0,a)::ZEb (k+1) l
theorem ZDy {k:Nat}:ZEb k []=[]:=rfl
theorem ZAS {k:Nat} {a:AO} {l:List AO}:ZEb k (a::l)=(k,0,a)::ZEb (k+1) l:=rfl
theorem ZqB:∀ (l:List AO) (k id:Nat),Zdj (ZEb k l) id=if k≤id then (l[id-k]?).map (fun o=>(0,o)) else none
 | [],k,id=>by simp [ZEb,Zdj]
 | a::l,k,id=>by
  rw [ZEb,Zdj]
  by_cases c:id=k
  ·rw [if_pos c,if_pos zO,c];simp
  ·rw [if_neg c,ZqB l (k+1) id]
   by_cases d:k≤id
   ·rw [if_pos d,if_pos zO,show id-k=(id-(k+1))+1 by omega];simp
   ·rw [if_neg d,if_neg zO]
theorem ZAT {a b c d:AO} {l:List AO}:ZpZ (a::b::c::d::l)=Zdj (ZEb 1000 (a::b::c::d::l)):=by
 funext id
 rw [ZqB,ZpZ]
theorem ZHH {p q r s:Nat × Nat} {hs:List (Nat × Nat)} {D c:Nat}:rho (p::q::r::s::hs) D c 1003 0=s:=by simp [rho,ZbF]
theorem ZFW {p q r s:Nat × Nat} {hs:List (Nat × Nat)} {D c g:Nat}:rho (p::q::r::s::hs) D c 1003 (g+1)=(s.1,c+(g+1)):=by simp [rho,ZbF]
theorem ZHI {p q r s t:Nat × Nat} {hs:List (Nat × Nat)} {D c:Nat}:rho (p::q::r::s::t::hs) D c 1004 0=t:=by simp [rho,ZbF]
theorem ZFX {p q r s t:Nat × Nat} {hs:List (Nat × Nat)} {D c g:Nat}:rho (p::q::r::s::t::hs) D c 1004 (g+1)=(t.1,c+(g+1)):=by simp [rho,ZbF]
theorem ZHJ {p q r s t u:Nat × Nat} {hs:List (Nat × Nat)} {D c:Nat}:rho (p::q::r::s::t::u::hs) D c 1005 0=u:=by simp [rho,ZbF]
theorem ZFY {p q r s t u:Nat × Nat} {hs:List (Nat × Nat)} {D c g:Nat}:rho (p::q::r::s::t::u::hs) D c 1005 (g+1)=(u.1,c+(g+1)):=by simp [rho,ZbF]
theorem ZHK {p q r s:Nat × Nat} {D c id g:Nat} (h:1004≤id):rho [p,q,r,s] D c id g=(D+id,c+g):=Zdk (by simp [ZbF];omega)
theorem ZHL {p q r s t:Nat × Nat} {D c id g:Nat} (h:1005≤id):rho [p,q,r,s,t] D c id g=(D+id,c+g):=Zdk (by simp [ZbF];omega)
theorem ZHM {p q r s t u:Nat × Nat} {D c id g:Nat} (h:1006≤id):rho [p,q,r,s,t,u] D c id g=(D+id,c+g):=Zdk (by simp [ZbF];omega)
def hR:=And.intro (And.intro @ZAT (And.intro @ZDy @ZAS)) <| And.intro (And.intro (And.intro @ZHH @ZFW) (And.intro @ZHI @ZFX)) <| And.intro (And.intro @ZHJ @ZFY) (And.intro @ZHK (And.intro @ZHL @ZHM))
end Go.Proofs.YtfplkgciebjehabGreatDoor.Aw
namespace Go.Proofs.YtfplkgciebjehabGreatDoor.Aw
open Go
set_option linter.defProp false
set_option maxRecDepth 100000
set_option linter.unusedSimpArgs false
set_option linter.unusedVariables false
def Zo8 (n:Nat):Nat:=if n≤16000 then n else 256
theorem ZuY [Tabs Tryz.prog] (nl:Bool) (b:List UInt8) (hb:b.length≤20000):HCon Tryz.prog Zgc [.sl nl none (b.map u8)] [] (.op 11 3 0)
  [(11,3,.row false [.sl nl none (b.map u8),.mp 5 1,.own 9 2 none 0 b.length,.sc (.int .i64 (Zo8 b.length:Int))]),(5,1,.row false [.tup []]),(9,2,.row false ((List.replicate b.length (0:Int)).map int))] 4:=by
 refine HCon.of' mix Tryz.func77 rfl Tryz.ntmps77 Zk9 Zla zB (by simp only [AV.gl.glL,AV.gl,and_true];exact Zag _ _ ZaD) zB ?_
 unfold ZgE
 obtain ⟨n,hn⟩:∃ n,n=b.length:=⟨_,rfl⟩
 have hmin:(if (32768:Int)<(n:Int) then (32768:Int) else (n:Int))=(n:Int):=if_neg zO
 have hz:(List.replicate n [AV.sc (.int .i64 0)]).flatten=(List.replicate n (0:Int)).map int:=by
  rw [List.map_replicate,List.flatten_replicate_singleton]
  rfl
 rw [←hn]
 by_cases c:n≤16000
 ·have d:decide ((n:Int)≤16000)=true:=decide_eq_true zO
  have ht:Zo8 n=n:=if_pos c
  rw [ht]
  repeat (first|refine zR (ja5 @List.length_map.{0,0} hn.symm @hmin @d @hz) ?_|exact zU (ja5 @List.length_map.{0,0} hn.symm @hmin @d @hz))
 ·have d:decide ((n:Int)≤16000)=false:=decide_eq_false zO
  have ht:Zo8 n=256:=if_neg c
  rw [ht]
  repeat (first|refine zR (ja5 @List.length_map.{0,0} hn.symm @hmin @d @hz) ?_|exact zU (ja5 @List.length_map.{0,0} hn.symm @hmin @d @hz))
def pcC (l:List (Nat × Nat)):List AV:=l.flatMap fun p=>[.sc (.int .u16 (p.1:Int)),.sc (.int .u16 (p.2:Int))]
theorem ZqC {a b:List (Nat × Nat)}:pcC (a++b)=pcC a++pcC b:=by simp [pcC]
theorem ZjW:∀ {l:List (Nat × Nat)},(pcC l).length=l.length*2
 | []=>rfl
 | p::l=>by rw [show pcC (p::l)=[.sc (.int .u16 (p.1:Int)),.sc (.int .u16 (p.2:Int))]++pcC l from rfl,List.length_append,ZjW];simp;omega
theorem Zoa {l:List (Nat × Nat)}:AV.free.freeL (pcC l)=true:=ZbB.2 fun x hx=>by
 simp only [pcC,List.mem_flatMap,List.mem_cons,List.not_mem_nil,or_false] at hx
 obtain ⟨p,_,rfl | rfl⟩:=hx <;> rfl
theorem ZaS {ρ:Nat→Nat→Nat × Nat} {l:List (Nat × Nat)}:ren.renL ρ (pcC l)=pcC l:=Zbm ρ _ Zoa
def ZnW (l:List UInt8):List (Nat × Nat):=l.map fun c=>(c.toNat,0)
set_option maxHeartbeats 1000000 in
theorem Ztg [Tabs Tryz.prog] (nl:Bool) (b:List UInt8) (hb:b.length≤20000) (s e:Nat) (hs:s≤e) (he:e≤b.length) (P:List (Nat × Nat)) (N:Nat) (hN:N=P.length) (hP:N≤20000) :
  HCon Tryz.prog Zbs [.sc (.int .i64 (e:Int)),.op 1000 0 0,.op 1001 0 0,.op 1002 0 0]
   [.row false [.sl nl none (b.map u8)],.row false [.sc (.int .i64 (s:Int))],.row false [.own 1003 0 (some 2) 0 N],.row (nl0 N) (pcC P)] (.tup [])
   [(1000,0,.row false [.sl nl none (b.map u8)]),(1001,0,.row false [.sc (.int .i64 (s:Int))]),(1002,0,.row false [.own 1003 30000 (some 2) 0 (N+(e-s))]),(1003,30000,.row (nl0 (N+(e-s))) (pcC (P++ZnW ((b.take e).drop s))))] 30001:=by
 refine HCon.of' mix Tryz.func37 rfl Tryz.ntmps37 Zko Zkp zB (by simp [AV.gl,AV.gl.glL]) ?_ ?_
 ·intro n cells h
  simp only [List.mem_cons,AO.row.injEq,List.not_mem_nil,or_false] at h
  obtain ⟨-,rfl⟩ | ⟨-,rfl⟩ | ⟨-,rfl⟩ | ⟨-,rfl⟩:=h
  ·simp only [AV.gl.glL,AV.gl,and_true];exact Zag _ _ ZaD
  ·simp [AV.gl.glL,AV.gl]
  ·simp [AV.gl.glL,AV.gl]
  ·exact Zag _ _ Zoa
 unfold ZfH
 obtain ⟨seg,hseg⟩:∃ seg,seg=(b.take e).drop s:=⟨_,rfl⟩
 have hsl:seg.length=e-s:=by rw [hseg,List.length_drop,List.length_take];omega
 obtain ⟨M,hM⟩:∃ M,M=e-s:=⟨_,rfl⟩
 rw [←hM] at hsl
 have hcut:((b.map u8).take e).drop s=seg.map u8:=by rw [hseg,List.map_drop,List.map_take]
 rw [←hseg,←hM]
 repeat (first|refine zR (ja4 hR @List.length_map.{0,0} hseg.symm @hsl) ?_|exact zU (ja4 hR @List.length_map.{0,0} hseg.symm @hsl))
 refine SWp.loop (α:=Nat × Nat × Nat) (fun x=>mk 23 x.2.2 [(3,.op 1002 0 0),(10,.sl nl none (seg.map u8)),(11,int M),(12,int x.1)] [(1000,0,.row false [.sl nl none (b.map u8)]),(1001,0,.row false [.sc (.int .i64 (s:Int))]),(1002,0,.row false [.own 1003 x.2.1 (some 2) 0 (N+x.1)]),(1003,x.2.1,.row (nl0 (N+x.1)) (pcC (P++ZnW (seg.take x.1))))])
  (fun x=>x.1≤M∧x.2.2≤1+x.1) (fun x=>M-x.1) (0,0,1) ⟨Nat.zero_le _,by simp⟩ (Zaj rfl ?_ ?_ ?_) ?_
 ·exact Nat.le_refl _
 iterate 2 (case _=>(first|exact yU (ja2 hR @ZnW.eq_1)|refine yR (ja2 hR @ZnW.eq_1) ?_))
 rintro ⟨k,g,gc⟩ ⟨hk,hgc⟩ -
 simp only at hk hgc
 obtain ⟨Q,hQ⟩:∃ Q,Q=P++ZnW (seg.take k):=⟨_,rfl⟩
 have hQl:Q.length=N+k:=by rw [hQ,List.length_append,ZnW,List.length_map,List.length_take];omega
 simp only [←hQ]
 by_cases ck:k<M
 ·have dk:decide ((k:Int)<(M:Int))=true:=decide_eq_true zO
  have hg:(seg.map u8).getD k .junk=u8 (seg.getD k 0):=Zq8 zO
  obtain ⟨c,hc⟩:∃ c,c=seg.getD k 0:=⟨_,rfl⟩
  rw [←hc] at hg
  have hwr:IntKind.u16.wrap (c.toNat:Int)=(c.toNat:Int):=by
   have:=c.toNat_lt
   simp only [IntKind.wrap,IntKind.bits,IntKind.signed]
   simp
   omega
  have hst:seg.take (k+1)=seg.take k++[c]:=by rw [ZgS (d:=0) zO,hc]
  have hnx:P++ZnW (seg.take (k+1))=Q++[(c.toNat,0)]:=by rw [hst,hQ];simp [ZnW]
  have hpc:pcC Q++[AV.sc (.int .u16 (c.toNat:Int)),AV.sc (.int .u16 0)]=pcC (Q++[(c.toNat,0)]):=by rw [ZqC];rfl
  have hpl:(pcC Q).length=(N+k)*2:=by rw [ZjW,hQl]
  have hcl:=c.toNat_lt
  have hfl:List.flatMap (fun x=>(Zas x).getD []) [AV.agg [AV.sc (Value.int IntKind.u16 (c.toNat:Int)),AV.sc (Value.int IntKind.u16 0)]]=[AV.sc (Value.int IntKind.u16 (c.toNat:Int)),AV.sc (Value.int IntKind.u16 0)]:=rfl
  have hnl:nl0 (N+(k+1))=false:=Zca zO
  repeat (first|refine zR (ja5 @dk @List.length_map.{0,0} @hsl @hg @hwr) ?_|exact zU (ja5 @dk @List.length_map.{0,0} @hsl @hg @hwr))
  refine ⟨⟨_,rfl,rfl⟩,⟨fun w hw=>⟨_,List.mem_singleton.1 hw⟩,hpl.symm,by omega,by omega⟩,?_⟩
  repeat (first|refine zR (ja2 @hfl @hpc) ?_|exact zU (ja2 @hfl @hpc))
  refine At.of (k+1,gc,gc+1) ⟨by simp only;omega,by simp only;omega⟩ (by simp only;omega) rfl rfl (Nat.le_refl _) ?_ ?_
  iterate 2 (case _=>(first|exact yU (ja3 @hnx @hnl @Nat.add_assoc)|refine yR (ja3 @hnx @hnl @Nat.add_assoc) ?_))
 ·have dk:decide ((k:Int)<(M:Int))=false:=decide_eq_false zO
  obtain rfl:k=M:=zO
  rw [List.take_of_length_le zO] at hQ
  rw [←hQ]
  iterate 4 (first|refine zR @dk ?_|exact zU @dk)
  refine SWp.le (Zaj (N:=23) (gc:=30000) (l:=[]) (h:=[(1000,0,.row false [.sl nl none (b.map u8)]),(1001,0,.row false [.sc (.int .i64 (s:Int))]),(1002,0,.row false [.own 1003 g (some 2) 0 (N+k)]),(1003,g,.row (nl0 (N+k)) (pcC Q))]) rfl ?_ ?_ ?_) ?_
  ·(first|exact yT|refine yS ?_)
   omega
  iterate 2 (case _=>(first|exact yT|refine yS ?_))
  refine SWp.renew 1003 g (o:=.row (nl0 (N+k)) (pcC Q)) yT ?_
  refine SWp.le (Zaj (N:=23) (gc:=30001) (l:=[]) (h:=[(1000,0,.row false [.sl nl none (b.map u8)]),(1001,0,.row false [.sc (.int .i64 (s:Int))]),(1002,0,.row false [.own 1003 30000 (some 2) 0 (N+k)]),(1003,30000,.row (nl0 (N+k)) (pcC Q))]) rfl ?_ ?_ ?_) ?_
  iterate 3 (case _=>(first|exact yU (ja4 @Zba @Zbb @ZaS iR)|refine yR (ja4 @Zba @Zbb @ZaS iR) ?_))
  repeat (first|refine zR (ja3 iR hR @ZaS) ?_|exact zU (ja3 iR hR @ZaS))
abbrev p2I (nl:Bool) (b:List UInt8) (s:Nat) (P:List (Nat × Nat)):List AO:=[.row false [.clo Zbs [.op 1003 0 0,.op 1002 0 0,.op 1001 0 0]],.row false [.own 1004 0 (some 2) 0 P.length],.row false [.sc (.int .i64 (s:Int))],.row false [.sl nl none (b.map u8)],.row (nl0 P.length) (pcC P)]
abbrev p2O (nl:Bool) (b:List UInt8) (s:Nat) (P:List (Nat × Nat)) (m:Nat):List (Nat × Nat × AO):=[(1000,0,.row false [.clo Zbs [.op 1003 0 0,.op 1002 0 0,.op 1001 0 0]]),(1001,0,.row false [.own 1004 m (some 2) 0 P.length]),(1002,0,.row false [.sc (.int .i64 (s:Int))]),(1003,0,.row false [.sl nl none (b.map u8)]),(1004,m,.row (nl0 P.length) (pcC P))]
def Zyu (b:List UInt8) (P:List (Nat × Nat)) (s f l k:Nat):List (Nat × Nat):=P++ZnW ((b.take f).drop s)++[(l,k)]
set_option maxHeartbeats 1000000 in
theorem ZAU [Tabs Tryz.prog] (nl:Bool) (b:List UInt8) (hb:b.length≤20000) (s f l k:Nat) (hs:s≤f) (hf:f≤b.length) (P:List (Nat × Nat)) (hP:P.length≤s) (hl:l≤258) (hk:k≤32768) :
  HCon Tryz.prog Zbt [.sc (.int .i64 (f:Int)),.sc (.int .i64 (l:Int)),.sc (.int .i64 (k:Int)),.op 1000 0 0,.op 1001 0 0,.op 1002 0 0]
   (p2I nl b s P) (.tup []) (p2O nl b (f+l) (Zyu b P s f l k) 30002) 30003:=by
 refine HCon.of' mix Tryz.func39 rfl Tryz.ntmps39 Zkq Zkr zB (by simp [AV.gl,AV.gl.glL]) ?_ ?_
 ·intro n cells h
  simp only [List.mem_cons,AO.row.injEq,List.not_mem_nil,or_false] at h
  obtain ⟨-,rfl⟩ | ⟨-,rfl⟩ | ⟨-,rfl⟩ | ⟨-,rfl⟩ | ⟨-,rfl⟩:=h
  ·simp [AV.gl.glL,AV.gl]
  ·simp [AV.gl.glL,AV.gl]
  ·simp [AV.gl.glL,AV.gl]
  ·simp only [AV.gl.glL,AV.gl,and_true];exact Zag _ _ ZaD
  ·exact Zag _ _ Zoa
 unfold ZfI
 obtain ⟨N,hN⟩:∃ N,N=P.length:=⟨_,rfl⟩
 have p1:=Ztg nl b hb s f hs hf P N hN zO
 obtain ⟨Q,hQ⟩:∃ Q,Q=P++ZnW ((b.take f).drop s):=⟨_,rfl⟩
 have hQl:Q.length=N+(f-s):=by rw [hQ,List.length_append,ZnW,List.length_map,List.length_drop,List.length_take];omega
 have hR':Zyu b P s f l k=Q++[(l,k)]:=by rw [Zyu,hQ]
 have hRl:(Q++[(l,k)]).length=N+(f-s)+1:=by rw [List.length_append,hQl];rfl
 have hw1:IntKind.u16.wrap (l:Int)=(l:Int):=by
  simp only [IntKind.wrap,IntKind.bits,IntKind.signed]
  simp
  omega
 have hw2:IntKind.u16.wrap (k:Int)=(k:Int):=by
  simp only [IntKind.wrap,IntKind.bits,IntKind.signed]
  simp
  omega
 obtain ⟨M,hM⟩:∃ M,M=N+(f-s):=⟨_,rfl⟩
 have hM2:M≤20000:=zO
 rw [←hM] at hQl hRl p1
 rw [←hQ] at p1
 have hpl:(pcC Q).length=M*2:=by rw [ZjW,hQl]
 have hpc:pcC Q++[AV.sc (.int .u16 (l:Int)),AV.sc (.int .u16 (k:Int))]=pcC (Q++[(l,k)]):=by rw [ZqC];rfl
 have hfl:List.flatMap (fun x=>(Zas x).getD []) [AV.agg [AV.sc (Value.int IntKind.u16 (l:Int)),AV.sc (Value.int IntKind.u16 (k:Int))]]=[AV.sc (Value.int IntKind.u16 (l:Int)),AV.sc (Value.int IntKind.u16 (k:Int))]:=rfl
 have hnl:nl0 (M+1)=false:=Zca zO
 rw [hR']
 simp only [p2I,p2O,hRl,←hN]
 repeat (first|refine zR hR ?_|exact zU hR)
 refine Zuc rfl ?_
 refine Zae [(1003,0),(1002,0),(1001,0),(1004,0)] 2000 p1 zB zB ?_ ?_ ?_
 iterate 2 (case _=>(first|exact yU (ja3 hR @Zan @ZaS)|refine yR (ja3 hR @Zan @ZaS) ?_))
 repeat (first|refine zR (ja5 hR @Zan @ZaS @hw1 @hw2) ?_|exact zU (ja5 hR @Zan @ZaS @hw1 @hw2))
 refine ⟨⟨_,rfl,rfl⟩,⟨fun w hw=>⟨_,List.mem_singleton.1 hw⟩,hpl.symm,by omega,by omega⟩,?_⟩
 repeat (first|refine zR (ja6 hR @hfl @hpc @hnl @ZaS iR) ?_|exact zU (ja6 hR @hfl @hpc @hnl @ZaS iR))
 try omega
def ZAV (b:List UInt8):Nat→Nat→List (K3 × Nat) × List Int→List (K3 × Nat) × List Int
 | 0,_,x=>x
 | j+1,p,x=>ZAV b j (p+1) (ZDv b x.1 p,Zyt b x.1 x.2 p)
theorem ZrB {b:List UInt8}:∀ {j p:Nat} {x:List (K3 × Nat) × List Int},FInv b x.1 x.2 p→p+j≤b.length→FInv b (ZAV b j p x).1 (ZAV b j p x).2 (p+j)
 | 0,_,_,h,_=>h
 | j+1,p,x,h,hp=>by
  rw [ZAV,show p+(j+1)=(p+1)+j by omega]
  exact ZrB (h.add zO) zO
def ZAW (b:List UInt8) (m:List (K3 × Nat)) (A:List Int) (p:Nat):Nat × Nat:=Zrz b A p (min 258 (b.length-p)) (Zo8 b.length) (Zfi b m (p:Int)) 0 0
def Zm6 (b:List UInt8):Nat→Nat→List (K3 × Nat) × List Int→List (Nat × Nat)→Nat→List (Nat × Nat) × Nat
 | 0,_,_,P,s=>(P,s)
 | n+1,p,x,P,s=>if b.length≤p then (P,s) else
  if 0<(ZAW b x.1 x.2 p).1 then Zm6 b n (p+(ZAW b x.1 x.2 p).1) (ZAV b (ZAW b x.1 x.2 p).1 p x) (Zyu b P s p (ZAW b x.1 x.2 p).1 (ZAW b x.1 x.2 p).2) (p+(ZAW b x.1 x.2 p).1)
  else Zm6 b n (p+1) (ZAV b 1 p x) P s
theorem ZAX {b:List UInt8} {m:List (K3 × Nat)} {A:List Int} {p:Nat} (h:FInv b m A p) (hp:p<b.length):Zyd b p (min 258 (b.length-p)) (ZAW b m A p):=by
 refine ZrA h zO (fun hs=>?_) _ _ _ _ (Zn9 h) (.inl rfl)
 unfold ZaF at hs
 split at hs
 ·simp at hs
 ·omega
theorem Zo9 {b:List UInt8} {P:List (Nat × Nat)} {s f l k:Nat} (hs:s≤f) (hf:f≤b.length):(Zyu b P s f l k).length=P.length+(f-s)+1:=by
 rw [Zyu,List.length_append,List.length_append,ZnW,List.length_map,List.length_drop,List.length_take,List.length_singleton];omega
def KE:Nat:=8999999999
theorem ZFZ:KE=8999999999:=rfl
theorem ZAY {n:Nat} (h:n≤20000):Zo8 n≤20000:=by unfold Zo8;split <;> omega
def BG4:=ja3 iR @Zfo @Zan
set_option maxHeartbeats 2000000 in
theorem ZAZ [Tabs Tryz.prog] (nl:Bool) (b:List UInt8) (hb:b.length≤20000) (R:List (Nat × Nat) × Nat) (hR0:R=Zm6 b b.length 0 ([],List.replicate b.length 0) [] 0) :
  HCon Tryz.prog ZhB [.sl nl none (b.map u8),.clo Zbt [.op 1000 0 0,.op 1001 0 0,.op 1002 0 0]] (p2I nl b 0 []) (.tup []) (p2O nl b R.2 R.1 (KE+1)) (KE+2):=by
 refine HCon.of' mix Tryz.func38 rfl Tryz.ntmps38 ZmL ZmM zB ?_ ?_ ?_
 ·simp only [AV.gl.glL,AV.gl,and_true]
  exact ⟨Zag _ _ ZaD,by simp⟩
 ·intro n cells h
  simp only [List.mem_cons,AO.row.injEq,List.not_mem_nil,or_false] at h
  obtain ⟨-,rfl⟩ | ⟨-,rfl⟩ | ⟨-,rfl⟩ | ⟨-,rfl⟩ | ⟨-,rfl⟩:=h
  ·simp [AV.gl.glL,AV.gl]
  ·simp [AV.gl.glL,AV.gl]
  ·simp [AV.gl.glL,AV.gl]
  ·simp only [AV.gl.glL,AV.gl,and_true];exact Zag _ _ ZaD
  ·exact Zag _ _ Zoa
 unfold ZhP
 have nf:=ZuY nl b hb
 repeat (first|refine zR hR ?_|exact zU hR)
 refine Zae [] 2000 nf zB zB ?_ ?_ ?_
 iterate 2 (case _=>(first|exact yU hR|refine yR hR ?_))
 repeat (first|refine zR (ja3 hR @Zan iR) ?_|exact zU (ja3 hR @Zan iR))
 obtain ⟨t,ht⟩:∃ t,t=Zo8 b.length:=⟨_,rfl⟩
 have htl:t≤20000:=by rw [ht];exact ZAY hb
 refine SWp.loop (α:=Nat × (List (K3 × Nat) × List Int) × List (Nat × Nat) × Nat × Nat × Nat) (fun x=>mk 37 x.2.2.2.2.2 [(0,.sl nl none (b.map u8)),(1,.clo Zbt [.op 1000 0 0,.op 1001 0 0,.op 1002 0 0]),(4,.op 2011 4 0),(5,int x.1)] (p2O nl b x.2.2.2.1 x.2.2.1 x.2.2.2.2.1++[(2011,4,.row false [.sl nl none (b.map u8),.mp 2005 2,.own 2009 3 none 0 x.2.1.2.length,.sc (.int .i64 (t:Int))]),(2005,2,.row false [.tup (x.2.1.1.map enA)]),(2009,3,.row false (x.2.1.2.map int))]))
  (fun x=>x.1≤b.length∧FInv b x.2.1.1 x.2.1.2 x.1∧x.2.2.1.length≤x.2.2.2.1∧x.2.2.2.1≤x.1∧(∃ n,b.length≤x.1+n∧R=Zm6 b n x.1 x.2.1 x.2.2.1 x.2.2.2.1)∧x.2.2.2.2.2≤10+200000*x.1) (fun x=>b.length-x.1) (0,([],List.replicate b.length 0),[],0,0,5) ⟨Nat.zero_le _,FInv.start,Nat.zero_le _,Nat.zero_le _,⟨b.length,by simp,hR0⟩,by simp⟩ (Zaj rfl ?_ ?_ ?_) ?_
 iterate 3 (case _=>(first|exact yU (ja3 hR @List.length_replicate.{0} ht.symm)|refine yR (ja3 hR @List.length_replicate.{0} ht.symm) ?_))
 rintro ⟨p,⟨m,A⟩,P,s,g,gc⟩ ⟨hp,hF,hPs,hsp,⟨n0,hn0,hRe⟩,hgc⟩ -
 simp only at hp hF hPs hsp hn0 hRe hgc
 obtain ⟨N,hN⟩:∃ N,N=P.length:=⟨_,rfl⟩
 have hAl:=hF.len
 obtain ⟨e,he⟩:∃ e,e=m.map enA:=⟨_,rfl⟩
 have hre:∀ ρ,ren.renL ρ e=e:=fun ρ=>by rw [he];exact Zfo
 by_cases cp:p<b.length
 ·have dp:decide ((p:Int)<(b.length:Int))=true:=decide_eq_true zO
  obtain ⟨r,hr⟩:∃ r,r=ZAW b m A p:=⟨_,rfl⟩
  have hro:Zyd b p (min 258 (b.length-p)) r:=by rw [hr];exact ZAX hF cp
  have lo:=Ztd nl b hb t htl m A p cp hF r (by rw [hr,ZAW,ht])
  obtain ⟨n,hn⟩:∃ n,n0=n+1:=⟨n0-1,by omega⟩
  rw [hn,Zm6,if_neg zO] at hRe
  simp only [←hr] at hRe
  simp only [p2O,List.cons_append,List.nil_append,fdI,fdO,fdR,←he,←hN] at lo ⊢
  repeat (first|refine zR (ja2 @dp @List.length_map.{0,0}) ?_|exact zU (ja2 @dp @List.length_map.{0,0}))
  refine Zae [(2011,4),(2005,2),(2009,3)] 3000 lo zB zB ?_ ?_ ?_
  iterate 2 (case _=>(first|exact yU (ja3 iR @hre @Zan)|refine yR (ja3 iR @hre @Zan) ?_))
  iterate 2 (first|refine zR (ja3 iR @hre @Zan) ?_|exact zU (ja3 iR @hre @Zan))
  obtain ⟨l,k⟩:=r
  simp only at hRe hro ⊢
  obtain ⟨J,hJ⟩:∃ J,J=max l 1:=⟨_,rfl⟩
  have hmx:(if (l:Int)<1 then (1:Int) else (l:Int))=(J:Int):=by split <;> omega
  have hlk:l=0∨(3≤l∧p+l≤b.length∧l≤258∧1≤k∧k≤p):=by
   rcases hro with h | ⟨h1,h2,h3,h4,_⟩
   ·exact .inl h
   ·simp only at h1 h2 h3 h4;exact .inr zO
  have hJb:p+J≤b.length:=zO
  obtain ⟨P2,hP2⟩:∃ P2,P2=if 0<l then Zyu b P s p l k else P:=⟨_,rfl⟩
  obtain ⟨s2,hs2⟩:∃ s2,s2=if 0<l then p+l else s:=⟨_,rfl⟩
  have hRe2:R=Zm6 b n (p+J) (ZAV b J p (m,A)) P2 s2:=by
   by_cases c:0<l
   ·rw [if_pos c] at hRe hP2 hs2
    rw [hRe,hP2,hs2,show J=l by omega]
   ·rw [if_neg c] at hRe hP2 hs2
    rw [hRe,hP2,hs2,show J=1 by omega]
  have hPs2:P2.length≤s2:=by
   by_cases c:0<l
   ·rw [if_pos c] at hP2 hs2
    rw [hP2,hs2,Zo9 hsp hp];omega
   ·rw [if_neg c] at hP2 hs2
    rw [hP2,hs2];exact hPs
  have hss2:s2≤p+J:=by rw [hs2];split <;> omega
  obtain ⟨g2,hg2⟩:∃ g2,g2=if 0<l then gc+100000+30002 else g:=⟨_,rfl⟩
  refine SWp.toT (F:=mk 37 (gc+130003) [(0,.sl nl none (b.map u8)),(1,.clo Zbt [.op 1000 0 0,.op 1001 0 0,.op 1002 0 0]),(4,.op 2011 4 0),(5,int p),(6,int l)] (p2O nl b s2 P2 g2++[(2011,4,.row false [.sl nl none (b.map u8),.mp 2005 2,.own 2009 3 none 0 A.length,.sc (.int .i64 (t:Int))]),(2005,2,.row false [.tup e]),(2009,3,.row false (A.map int))])) ?_ ?_
  ·by_cases c:0<l
   ·have dl:decide ((0:Int)<(l:Int))=true:=decide_eq_true zO
    rw [if_pos c] at hP2 hs2
    rw [if_pos c] at hg2
    rw [hg2]
    have p2:=ZAU nl b hb s p l k hsp hp P hPs zO zO
    rw [←hP2,←hs2] at p2
    simp only [p2I,p2O,←hN] at p2 ⊢
    repeat (first|refine zR @dl ?_|exact zU @dl)
    refine Zuc rfl ?_
    refine Zae [(1000,0),(1001,0),(1002,0),(1003,0),(1004,g)] 3000 p2 zB zB ?_ ?_ ?_
    iterate 2 (case _=>(first|exact yU (ja3 hR @Zan @ZaS)|refine yR (ja3 hR @Zan @ZaS) ?_))
    repeat (first|refine zR (ja3 hR @Zan @ZaS) ?_|exact zU (ja3 hR @Zan @ZaS))
    refine Zaj rfl ?_ ?_ ?_
    ·show gc+100000+30003≤gc+130003
     omega
    iterate 2 (case _=>(first|exact yT|refine yS ?_))
   ·have dl:decide ((0:Int)<(l:Int))=false:=decide_eq_false zO
    rw [if_neg c] at hP2 hs2
    rw [if_neg c] at hg2
    rw [hP2,hs2,hg2]
    simp only [p2O,←hN]
    repeat (first|refine zR @dl ?_|exact zU @dl)
    refine SWp.skip (Zaj rfl ?_ ?_ ?_)
    ·show gc+100000≤gc+130003
     omega
    iterate 2 (case _=>(first|exact yT|refine yS ?_))
  ·repeat (first|refine zR @hmx ?_|exact zU @hmx)
   refine SWp.loop (α:=Nat × Nat × (List (K3 × Nat) × List Int) × Nat) (fun x=>mk 37 x.2.2.2 [(0,.sl nl none (b.map u8)),(1,.clo Zbt [.op 1000 0 0,.op 1001 0 0,.op 1002 0 0]),(4,.op 2011 4 0),(5,int x.2.1),(28,int J),(29,int x.1)] (p2O nl b s2 P2 g2++[(2011,4,.row false [.sl nl none (b.map u8),.mp 2005 2,.own 2009 3 none 0 x.2.2.1.2.length,.sc (.int .i64 (t:Int))]),(2005,2,.row false [.tup (x.2.2.1.1.map enA)]),(2009,3,.row false (x.2.2.1.2.map int))]))
    (fun x=>x.1≤J∧x.2.1=p+x.1∧FInv b x.2.2.1.1 x.2.2.1.2 x.2.1∧ZAV b J p (m,A)=ZAV b (J-x.1) x.2.1 x.2.2.1∧x.2.2.2≤200000*p+130020+20*x.1) (fun x=>J-x.1) (0,p,(m,A),gc+130003) ⟨Nat.zero_le _,rfl,hF,rfl,by simp only;omega⟩ (Zaj rfl ?_ ?_ ?_) ?_
   ·exact Nat.le_refl _
   iterate 2 (case _=>(first|exact yU he.symm|refine yR he.symm ?_))
   rintro ⟨j,q,⟨m2,A2⟩,gd⟩ ⟨hj,hq,hF2,haN,hgd⟩ -
   simp only at hj hq hF2 haN hgd
   by_cases cj:j<J
   ·have dj:decide ((j:Int)<(J:Int))=true:=decide_eq_true zO
    have hql:q<b.length:=zO
    have hll:-32769≤Zfi b m2 (q:Int)∧Zfi b m2 (q:Int)≤20000:=by
     rcases Zn9 hF2 with h | ⟨h1,h2,_⟩ <;> omega
    have ad:=ZDw nl b hb t m2 A2 hF2.len q hql hll
    obtain ⟨i,hi⟩:∃ i,J-j=i+1:=⟨J-j-1,by omega⟩
    rw [hi,ZAV] at haN
    simp only at haN
    have hF3:=hF2.add hql
    obtain ⟨m3,hm3⟩:∃ m3,m3=ZDv b m2 q:=⟨_,rfl⟩
    obtain ⟨A3,hA3⟩:∃ A3,A3=Zyt b m2 A2 q:=⟨_,rfl⟩
    rw [←hm3,←hA3] at hF3 haN ad
    simp only [fdI,fdO,fdR] at ad
    repeat (first|refine zR @dj ?_|exact zU @dj)
    refine Zae [(2011,4),(2005,2),(2009,3)] 3000 ad zB zB ?_ ?_ ?_
    iterate 2 (case _=>(first|exact yU BG4|refine yR BG4 ?_))
    repeat (first|refine zR BG4 ?_|exact zU BG4)
    refine At.of (j+1,q+1,(m3,A3),gd+14) ⟨by simp only;omega,by simp only;omega,hF3,by simp only;rw [show J-(j+1)=i by omega];exact haN,by simp only;omega⟩ (by simp only;omega) rfl rfl (Nat.le_refl _) ?_ ?_
    iterate 2 (case _=>(first|exact yT|refine yS ?_))
   ·have dj:decide ((j:Int)<(J:Int))=false:=decide_eq_false zO
    obtain rfl:j=J:=zO
    rw [Nat.sub_self,ZAV] at haN
    rw [haN] at hRe2
    repeat (first|refine zR @dj ?_|exact zU @dj)
    refine At.of (q,(m2,A2),P2,s2,g2,gd) ⟨by simp only;omega,hF2,hPs2,by simp only;omega,⟨n,by simp only;omega,by rw [hq];exact hRe2⟩,by simp only;omega⟩ (by simp only;omega) rfl rfl (Nat.le_refl _) ?_ ?_
    iterate 2 (case _=>(first|exact yT|refine yS ?_))
 ·have dp:decide ((p:Int)<(b.length:Int))=false:=decide_eq_false zO
  obtain rfl:p=b.length:=zO
  have hRs:Zm6 b n0 b.length (m,A) P s=(P,s):=by
   cases n0 with
   | zero=>rfl
   | succ n=>rw [Zm6,if_pos (Nat.le_refl _)]
  rw [hRs] at hRe
  subst hRe
  simp only [p2O,List.cons_append,List.nil_append,←hN]
  iterate 4 (first|refine zR (ja2 @dp @List.length_map.{0,0}) ?_|exact zU (ja2 @dp @List.length_map.{0,0}))
  refine SWp.le (Zaj (N:=37) (gc:=KE+1) (l:=[]) (h:=[(1000,0,.row false [.clo Zbs [.op 1003 0 0,.op 1002 0 0,.op 1001 0 0]]),(1001,0,.row false [.own 1004 g (some 2) 0 N]),(1002,0,.row false [.sc (.int .i64 (s:Int))]),(1003,0,.row false [.sl nl none (b.map u8)]),(1004,g,.row (nl0 N) (pcC P))]) rfl ?_ ?_ ?_) ?_
  ·have:=ZFZ
   (first|exact yT|refine yS ?_)
   omega
  iterate 2 (case _=>(first|exact yT|refine yS ?_))
  refine SWp.renew 1004 g (o:=.row (nl0 N) (pcC P)) yT ?_
  refine SWp.le (Zaj (N:=37) (gc:=KE+2) (l:=[]) (h:=[(1000,0,.row false [.clo Zbs [.op 1003 0 0,.op 1002 0 0,.op 1001 0 0]]),(1001,0,.row false [.own 1004 (KE+1) (some 2) 0 N]),(1002,0,.row false [.sc (.int .i64 (s:Int))]),(1003,0,.row false [.sl nl none (b.map u8)]),(1004,KE+1,.row (nl0 N) (pcC P))]) rfl ?_ ?_ ?_) ?_
  iterate 3 (case _=>(first|exact yU (ja6 @Zba @Zbb @ZaS @ZoJ iR @Zan)|refine yR (ja6 @Zba @Zbb @ZaS @ZoJ iR @Zan) ?_))
  repeat (first|refine zR (ja3 iR hR @ZaS) ?_|exact zU (ja3 iR hR @ZaS))
theorem Zyg {l:List (Nat × Nat)}:chunks (some 2) l.length (pcC l)=l.map pcA:=by
 have h:=Zic (es:=some 2) (l.map pcA) (fun x hx=>by
  obtain ⟨p,_,rfl⟩:=List.mem_map.1 hx
  exact ⟨_,rfl,rfl⟩)
 rw [List.length_map,List.flatMap_map] at h
 exact h
theorem ZA0:pcC []=[]:=rfl
theorem ZEc:nl0 0=true:=rfl
def Zv2 (b:List UInt8):List (Nat × Nat) × Nat:=Zm6 b b.length 0 ([],List.replicate b.length 0) [] 0
def ZjX (b:List UInt8):List (Nat × Nat):=(Zv2 b).1++ZnW (b.drop (Zv2 b).2)
theorem Zpa {b:List UInt8} (I:Nat→List (Nat × Nat)→Nat→Prop) (hI:∀ p P s l k,I p P s→s≤p→p<b.length→Zyd b p (min 258 (b.length-p)) (l,k)→0<l→I (p+l) (Zyu b P s p l k) (p+l)) (hJ:∀ p P s,I p P s→I (p+1) P s) :
  ∀ (n p:Nat) (x:List (K3 × Nat) × List Int) (P:List (Nat × Nat)) (s:Nat),FInv b x.1 x.2 p→p≤b.length→s≤p→b.length≤p+n→I p P s→I b.length (Zm6 b n p x P s).1 (Zm6 b n p x P s).2∧(Zm6 b n p x P s).2≤b.length
 | 0,p,x,P,s,hF,hp,hs,hn,h=>by
  obtain rfl:p=b.length:=zO
  exact ⟨h,hs⟩
 | n+1,p,x,P,s,hF,hp,hs,hn,h=>by
  rw [Zm6]
  by_cases c:b.length≤p
  ·rw [if_pos c]
   obtain rfl:p=b.length:=zO
   exact ⟨h,hs⟩
  ·rw [if_neg c]
   have ho:=ZAX hF (show p<b.length by omega)
   by_cases d:0<(ZAW b x.1 x.2 p).1
   ·rw [if_pos d]
    have hl:p+(ZAW b x.1 x.2 p).1≤b.length:=by
     rcases ho with h | ⟨_,h2,_⟩
     ·omega
     ·have:min 258 (b.length-p)≤b.length-p:=Nat.min_le_right _ _
      omega
    exact Zpa I hI hJ n _ _ _ _ (ZrB hF hl) hl (Nat.le_refl _) zO (hI _ _ _ _ _ h hs zO ho d)
   ·rw [if_neg d]
    exact Zpa I hI hJ n _ _ _ _ (ZrB hF zO) zO zO zO (hJ _ _ _ h)
theorem Zv3 {b:List UInt8} (I:Nat→List (Nat × Nat)→Nat→Prop) (hI:∀ p P s l k,I p P s→s≤p→p<b.length→Zyd b p (min 258 (b.length-p)) (l,k)→0<l→I (p+l) (Zyu b P s p l k) (p+l)) (hJ:∀ p P s,I p P s→I (p+1) P s) (h0:I 0 [] 0):I b.length (Zv2 b).1 (Zv2 b).2∧(Zv2 b).2≤b.length :=
 Zpa I hI hJ b.length 0 ([],List.replicate b.length 0) [] 0 FInv.start (Nat.zero_le _) (Nat.le_refl _) zO h0
theorem ZA1 {l:List UInt8}:∀ q∈ZnW l,Zlg q:=fun q hq=>by
 obtain ⟨c,_,rfl⟩:=List.mem_map.1 hq
 exact .inl ⟨rfl,by have:=c.toNat_lt;omega⟩
theorem ZjY {b:List UInt8} (hb:b.length≤20000):((∀ q∈(Zv2 b).1,Zlg q)∧(Zv2 b).1.length≤(Zv2 b).2)∧(Zv2 b).2≤b.length:=by
 have h:=Zv3 (b:=b) (fun p P s=>(∀ q∈P,Zlg q)∧P.length≤s) (fun p P s l k h hs hp ho hl=>⟨fun q hq=>?_,?_⟩) (fun p P s h=>h) ⟨by simp,by simp⟩
 ·exact h
 ·rw [Zyu] at hq
  rcases List.mem_append.1 hq with hq | hq
  ·rcases List.mem_append.1 hq with hq | hq
   ·exact h.1 q hq
   ·exact ZA1 q hq
  ·rw [List.mem_singleton] at hq
   subst hq
   rcases ho with ho | ⟨h1,h2,h3,h4,_⟩
   ·simp only at ho;omega
   ·simp only at h1 h2 h3 h4
    exact .inr ⟨by simp only;omega,by simp only;omega,by simp only;omega,by simp only;omega⟩
 ·have:=h.2
  rw [Zo9 hs zO];omega
theorem Ziz {b:List UInt8} (hb:b.length≤20000):∀ q∈ZjX b,Zlg q:=fun q hq=>by
 rcases List.mem_append.1 hq with hq | hq
 ·exact (ZjY hb).1.1 q hq
 ·exact ZA1 q hq
theorem ZiA {b:List UInt8} (hb:b.length≤20000):(ZjX b).length≤20000:=by
 have h:=ZjY hb
 rw [ZjX,List.length_append,ZnW,List.length_map,List.length_drop];omega
set_option maxHeartbeats 1000000 in
theorem ZqD [Tabs Tryz.prog] (nl:Bool) (b:List UInt8) (hb:b.length≤20000):Con Tryz.prog Zd8 [.sl nl none (b.map u8)] (.sl (nl0 (ZjX b).length) (some 2) ((ZjX b).map pcA)):=by
 refine Con.of' mix Tryz.func16 rfl Tryz.ntmps16 ZlP ZlQ zB (by simp only [AV.free,AV.free.freeL,ZaD,Bool.and_self]) (by simp only [AV.free];exact Zeo) ?_
 unfold Zg6
 obtain ⟨R,hR0⟩:∃ R,R=Zv2 b:=⟨_,rfl⟩
 have er:=ZAZ nl b hb R hR0
 have hf:=ZjY hb
 rw [←hR0] at hf
 obtain ⟨⟨hf1,hf2⟩,hf3⟩:=hf
 obtain ⟨Q,s⟩:=R
 simp only at hf1 hf2 hf3 er
 obtain ⟨N,hN⟩:∃ N,N=Q.length:=⟨_,rfl⟩
 have p1:=Ztg nl b hb s b.length hf3 (Nat.le_refl _) Q N hN zO
 rw [List.take_length] at p1
 have hM:ZjX b=Q++ZnW (b.drop s):=by rw [ZjX,←hR0]
 rw [←hM] at p1
 have hMl:(ZjX b).length=N+(b.length-s):=by rw [hM,List.length_append,ZnW,List.length_map,List.length_drop,hN]
 obtain ⟨Z,hZ⟩:∃ Z,Z=ZjX b:=⟨_,rfl⟩
 obtain ⟨M,hMd⟩:∃ M,M=Z.length:=⟨_,rfl⟩
 have hMe:N+(b.length-s)=M:=by rw [hMd,hZ,hMl]
 rw [hMe,←hZ] at p1
 have hcn:chunks (some 2) M (pcC Z)=Z.map pcA:=by rw [hMd];exact Zyg
 have hpl:(pcC Z).length=M*2:=by rw [ZjW,hMd]
 rw [←hZ,←hMd]
 simp only [p2I,p2O,List.length_nil,←hN] at er
 iterate 4 (first|refine zS ?_|exact zT)
 refine SWp.adoptC 3 1 0 100 (some 2) (nl:=false) (cells:=[.sc (.slice none 0 0)]) yT rfl (by decide) ?_
 repeat (first|refine zR @List.set_cons_zero.{0} ?_|exact zU @List.set_cons_zero.{0})
 refine Zae [(5,4),(3,1),(4,3),(1,0),(100,2)] 2000 er zB zB ?_ ?_ ?_
 iterate 2 (case _=>(first|exact yU (ja5 hR @Zan @ZaS @ZA0 @ZEc)|refine yR (ja5 hR @Zan @ZaS @ZA0 @ZEc) ?_))
 iterate 1 (first|refine zR (ja3 hR @Zan @ZaS) ?_|exact zU (ja3 hR @Zan @ZaS))
 repeat (first|refine zR (ja4 hR @Zan @ZaS @List.length_map.{0,0}) ?_|exact zU (ja4 hR @Zan @ZaS @List.length_map.{0,0}))
 refine Zuc rfl ?_
 refine Zae [(1,0),(4,3),(3,1),(100,5+(KE+1))] 3000 p1 zB zB ?_ ?_ ?_
 iterate 2 (case _=>(first|exact yU (ja3 hR @Zan @ZaS)|refine yR (ja3 hR @Zan @ZaS) ?_))
 repeat (first|refine zR (ja5 hR @Zan @ZaS @hcn @hpl) ?_|exact zU (ja5 hR @Zan @ZaS @hcn @hpl))
def wrR (g n i:Nat):List AV:=[.own 1001 g none 0 n,.sc (.int .i64 (i:Int))]
theorem Zmd {n i:Nat} {nl:Bool} {b:List UInt8}:∀ m cells,AO.row m cells∈[AO.row false (wrR 0 n i),.row nl (b.map u8)]→AV.gl.glL 1 cells:=by
 intro m cells h
 simp only [List.mem_cons,AO.row.injEq,List.not_mem_nil,or_false] at h
 obtain ⟨-,rfl⟩ | ⟨-,rfl⟩:=h
 ·simp only [wrR,AV.gl.glL,AV.gl,and_true];omega
 ·exact Zag _ _ ZaD
theorem Zfp [Tabs Tryz.prog]:HCon Tryz.prog ZiJ [] [] (.op 2 1 0) [(2,1,.row false [.own 100 2 none 0 0,int 0]),(100,2,.row true [])] 3:=by
 refine HCon.of' mix Tryz.func13 rfl Tryz.ntmps13 ZnM ZnN zB (by simp [AV.gl.glL]) zB ?_
 unfold ZiP
 iterate 4 (first|refine zS ?_|exact zT)
 refine SWp.adoptC 2 1 0 100 none (nl:=false) (cells:=[.sc (.slice none 0 0),int 0]) yT rfl (by decide) ?_
 repeat (first|refine zR @List.set_cons_zero.{0} ?_|exact zU @List.set_cons_zero.{0})
theorem Zpb [Tabs Tryz.prog] (L:List Nat) (hl:L.length≤3000000) (hL:∀ x∈L,x<2) (n i:Nat) (hn:n=(L.length+7) / 8) (hi:i=L.length) (x:Nat) (hx:x<2) :
  HCon Tryz.prog ZeS [.op 1000 0 0,.sc (.int .i64 (x:Int))] [.row false (wrR 0 n i),.row (nl0 n) ((Zax L).map u8)] (.tup [])
   [(1000,0,.row false (wrR 1 ((i+8) / 8) (i+1))),(1001,1,.row false ((Zax (L++[x])).map u8))] 2:=by
 refine HCon.of' mix Tryz.func113 rfl Tryz.ntmps113 ZmT ZmU zB (by simp [AV.gl,AV.gl.glL]) Zmd ?_
 unfold ZhX
 have hbl:(Zax L).length=n:=by rw [Za9,hn]
 by_cases c0:i % 8=0
 ·have hs:=ZsH (L:=L) (x:=x) zO
  have hin:i / 8=n:=zO
  have hn1:(i+8) / 8=n+1:=zO
  obtain ⟨b,hb⟩:∃ b,b=Zax L:=⟨_,rfl⟩
  rw [←hb] at hs hbl ⊢
  rw [hs,hn1]
  obtain ⟨b0,hb0⟩:∃ b0,b0=b++[0]:=⟨_,rfl⟩
  have hrow:b.map u8++[AV.sc (.int .u8 0)]=b0.map u8:=by rw [hb0];simp [u8]
  have hl0:b0.length=n+1:=by rw [hb0];simp [hbl]
  have hg0:b0.getD n 0=0:=by rw [hb0,←hbl];simp [List.getD]
  have hset:b0.set n (UInt8.ofNat x)=b++[UInt8.ofNat x]:=by rw [hb0,←hbl];simp
  have hor:Zci .or .u8 ((b0.getD n 0).toNat:Int) .u8 (x:Int)=(True,.sc (.int .u8 ((UInt8.ofNat x).toNat:Int))):=by
   rw [hg0]
   obtain rfl | rfl:x=0∨x=1:=zO
   ·exact ZEG (n:=0) (m:=0) zO zO
   ·exact ZEG (n:=0) (m:=1) zO zO
  have hfin:=Zso (b:=b0) (k:=n) (c:=UInt8.ofNat x) zO
  rw [hset] at hfin
  repeat (first|refine zR (ja7 @wrR.eq_1 @c0 @hin @hrow @hor @hfin iR) ?_|exact zU (ja7 @wrR.eq_1 @c0 @hin @hrow @hor @hfin iR))
 ·have hs:=ZsI (L:=L) (x:=x) zO
  have hla:=ZuB (L:=L) zO
  obtain ⟨q,hq⟩:∃ q,q=L.length / 8:=⟨_,rfl⟩
  obtain ⟨j,hj⟩:∃ j,j=L.length % 8:=⟨_,rfl⟩
  rw [←hq] at hs hla
  rw [←hj] at hs
  have hlt:=ZmV (l:=L.drop (8*q)) fun y hy=>hL y (List.mem_of_mem_drop hy)
  have hdl:(L.drop (8*q)).length=j:=by rw [List.length_drop];omega
  rw [hdl] at hlt
  obtain ⟨y,hy⟩:∃ y,y=Zeq (L.drop (8*q)):=⟨_,rfl⟩
  rw [←hy] at hs hla hlt
  have hp:2^j≤128:=ZaR (n:=j) (m:=7) zO
  obtain ⟨z,hz⟩:∃ z,z=x*2^j:=⟨_,rfl⟩
  have hzl:z≤128:=by
   obtain rfl | rfl:x=0∨x=1:=zO
   ·omega
   ·omega
  have hor:y|||z=y+2^j*x:=by
   rw [hz,Nat.mul_comm,Nat.or_comm,←Nat.two_pow_add_eq_or_of_lt hlt,Nat.add_comm]
  have hyz:y+2^j*x<256:=by
   rw [Nat.mul_comm,←hz]
   have:=Nat.or_lt_two_pow (n:=8) (x:=y) (y:=z) zO zO
   rw [hor,Nat.mul_comm,←hz] at this
   exact this
  have hiq:i / 8=q:=zO
  have hij:i % 8=j:=zO
  have hi8:(i+8) / 8=n:=zO
  have hqn:q<n:=zO
  obtain ⟨b,hb⟩:∃ b,b=Zax L:=⟨_,rfl⟩
  rw [←hb] at hs hla hbl ⊢
  rw [hs,hi8]
  have hbq:((b.getD q 0).toNat:Int)=(y:Int):=by rw [hla,UInt8.toNat_ofNat',Nat.mod_eq_of_lt zO]
  obtain ⟨c,hc⟩:∃ c,c=UInt8.ofNat (y+2^j*x):=⟨_,rfl⟩
  have hcy:y|||z=c.toNat:=by rw [hc,hor,UInt8.toNat_ofNat',Nat.mod_eq_of_lt hyz]
  rw [←hc]
  have hfin:=Zso (b:=b) (k:=q) (c:=c) zO
  have dj:decide ((j:Int)=0)=false:=decide_eq_false zO
  have hnl:nl0 n=false:=Zca zO
  refine SWp.renew 1001 0 (o:=.row (nl0 n) (b.map u8)) (yU @wrR.eq_1) ?_
  refine SWp.le (Zaj (N:=47) (gc:=2) (l:=[(0,.op 1000 0 0),(1,.sc (.int .i64 (x:Int)))]) (h:=[(1000,0,.row false (wrR 1 n i)),(1001,1,.row false (b.map u8))]) rfl ?_ ?_ ?_) ?_
  ·exact Nat.le_refl _
  iterate 2 (case _=>(first|exact yU (ja4 @Zba @wrR.eq_1 @Zbb @hnl)|refine yR (ja4 @Zba @wrR.eq_1 @Zbb @hnl) ?_))
  repeat (first|refine zR (ja8 @wrR.eq_1 @hij @dj @hiq @hbq hz.symm @hcy (ja2 @hfin iR)) ?_|exact zU (ja8 @wrR.eq_1 @hij @dj @hiq @hbq hz.symm @hcy (ja2 @hfin iR)))
def BG0:=ja2 @wrR.eq_1 iR
def BG5:=ja3 @wrR.eq_1 @List.take_zero.{0} @List.append_nil.{0}
def BG6:=ja3 @wrR.eq_1 @Zbb @Zba
theorem Zf0 [Tabs Tryz.prog] (L:List Nat) (hl:L.length≤2000000) (hL:∀ x∈L,x<2) (v:Nat) (hv:v<16777216) (n:Nat) (hn:n≤24) (i m:Nat) (hi:i=L.length) (hm:m=(L.length+7) / 8) :
  HCon Tryz.prog ZaE [.op 1000 0 0,.sc (.int .i64 (v:Int)),.sc (.int .i64 (n:Int))] [.row false (wrR 0 m i),.row (nl0 m) ((Zax L).map u8)] (.tup [])
   [(1000,0,.row false (wrR 60 ((i+n+7) / 8) (i+n))),(1001,60,.row (nl0 ((i+n+7) / 8)) ((Zax (L++ZbE v n)).map u8))] 61:=by
 refine HCon.of' mix Tryz.func68 rfl Tryz.ntmps68 ZmN ZmO zB (by simp [AV.gl,AV.gl.glL]) Zmd ?_
 unfold ZhQ
 have d1:decide ((n:Int)<0)=false:=decide_eq_false zO
 have d2:decide (24<(n:Int))=false:=decide_eq_false zO
 repeat (first|refine zR (ja2 @d1 @d2) ?_|exact zU (ja2 @d1 @d2))
 refine SWp.loop (α:=Nat × Nat) (fun x=>mk 24 (1+2*x.1) [(0,.op 1000 0 0),(1,.sc (.int .i64 (v:Int))),(13,int n),(14,int x.1)] [(1000,0,.row false (wrR x.2 ((i+x.1+7) / 8) (i+x.1))),(1001,x.2,.row (nl0 ((i+x.1+7) / 8)) ((Zax (L++(ZbE v n).take x.1)).map u8))])
  (fun x=>x.1≤n) (fun x=>n-x.1) (0,0) (Nat.zero_le _) (Zaj rfl ?_ ?_ ?_) ?_
 ·exact Nat.le_refl _
 ·(first|exact yT|refine yS ?_)
 ·(first|exact yU BG5|refine yR BG5 ?_)
  rw [hm,hi];exact ⟨rfl,rfl⟩
 rintro ⟨k,g⟩ hk -
 simp only at hk
 repeat (first|refine zS ?_|exact zT)
 refine SWp.cond rfl (fun h=>?_) (fun h=>?_)
 ·simp only [decide_eq_true_eq] at h
  have hkn:k<n:=zO
  have hs:=ZzY (v:=v) hkn
  obtain ⟨L',hL'⟩:∃ L',L'=L++(ZbE v n).take k:=⟨_,rfl⟩
  have hll:L'.length=i+k:=by rw [hL',List.length_append,List.length_take,Zar];omega
  have hL2:∀ x∈L',x<2:=by
   rw [hL']
   intro x hx
   rcases List.mem_append.1 hx with h | h
   ·exact hL x h
   ·exact Zfn x (List.mem_of_mem_take h)
  obtain ⟨y,hy⟩:∃ y,y=v / 2^k:=⟨_,rfl⟩
  rw [←hy] at hs
  have hyv:y<16777216:=by rw [hy];exact Nat.lt_of_le_of_lt (Nat.div_le_self _ _) hv
  have hbit:=Zpb L' zO hL2 ((i+k+7) / 8) (i+k) (by rw [hll]) hll.symm (y % 2) (Nat.mod_lt _ zO)
  have hs2:L++(ZbE v n).take (k+1)=L'++[y % 2]:=by rw [hs,hL',List.append_assoc]
  rw [←hL']
  have e78:i+(k+1)+7=i+k+8:=zO
  have hnl:nl0 ((i+k+8) / 8)=false:=Zca zO
  repeat (first|refine zR (ja2 hy.symm @wrR.eq_1) ?_|exact zU (ja2 hy.symm @wrR.eq_1))
  refine Zae [(1000,0),(1001,g)] 2000 hbit zB zB ?_ ?_ ?_
  iterate 2 (case _=>(first|exact yU BG0|refine yR BG0 ?_))
  repeat (first|refine zR BG0 ?_|exact zU BG0)
  refine At.of (k+1,1+2*k+1) (by simp only;omega) (by simp only;omega) rfl rfl ?_ ?_ ?_
  ·simp only;omega
  iterate 2 (case _=>(first|exact yU (ja5 @wrR.eq_1 @hs2 @e78 @hnl @Int.add_assoc)|refine yR (ja5 @wrR.eq_1 @hs2 @e78 @hnl @Int.add_assoc) ?_))
 ·simp only [decide_eq_false_iff_not] at h
  obtain rfl:k=n:=zO
  have ht:(ZbE v k).take k=ZbE v k:=List.take_of_length_le (by rw [Zar];exact Nat.le_refl _)
  rw [ht]
  refine SWp.le (Zaj (N:=24) (gc:=60) (l:=[]) (h:=[(1000,0,.row false (wrR g ((i+k+7) / 8) (i+k))),(1001,g,.row (nl0 ((i+k+7) / 8)) ((Zax (L++ZbE v k)).map u8))]) rfl ?_ ?_ ?_) ?_
  ·(first|exact yT|refine yS ?_)
   omega
  iterate 2 (case _=>(first|exact yT|refine yS ?_))
  refine SWp.renew 1001 g (o:=.row (nl0 ((i+k+7) / 8)) ((Zax (L++ZbE v k)).map u8)) yT ?_
  refine SWp.le (Zaj (N:=24) (gc:=61) (l:=[]) (h:=[(1000,0,.row false (wrR 60 ((i+k+7) / 8) (i+k))),(1001,60,.row (nl0 ((i+k+7) / 8)) ((Zax (L++ZbE v k)).map u8))]) rfl ?_ ?_ ?_) ?_
  iterate 3 (case _=>(first|exact yU BG6|refine yR BG6 ?_))
  repeat (first|refine zR iR ?_|exact zU iR)
theorem ZuZ [Tabs Tryz.prog] (L:List Nat) (hl:L.length≤2000000) (hL:∀ x∈L,x<2) (v:Nat) (hv:v<33554432) (n:Nat) (hn:n≤15) (i m:Nat) (hi:i=L.length) (hm:m=(L.length+7) / 8) :
  HCon Tryz.prog ZgZ [.op 1000 0 0,.sc (.int .i64 (v:Int)),.sc (.int .i64 (n:Int))] [.row false (wrR 0 m i),.row (nl0 m) ((Zax L).map u8)] (.tup [])
   [(1000,0,.row false (wrR 60 ((i+n+7) / 8) (i+n))),(1001,60,.row (nl0 ((i+n+7) / 8)) ((Zax (L++ZiT v n)).map u8))] 61:=by
 refine HCon.of' mix Tryz.func114 rfl Tryz.ntmps114 ZlU ZlV zB (by simp [AV.gl,AV.gl.glL]) Zmd ?_
 unfold Zg8
 have d1:decide ((n:Int)<0)=false:=decide_eq_false zO
 have d2:decide (15<(n:Int))=false:=decide_eq_false zO
 repeat (first|refine zR (ja2 @d1 @d2) ?_|exact zU (ja2 @d1 @d2))
 refine SWp.loop (α:=Nat × Nat) (fun x=>mk 27 (1+2*x.1) [(0,.op 1000 0 0),(1,.sc (.int .i64 (v:Int))),(2,int n),(13,int n),(14,int x.1)] [(1000,0,.row false (wrR x.2 ((i+x.1+7) / 8) (i+x.1))),(1001,x.2,.row (nl0 ((i+x.1+7) / 8)) ((Zax (L++(ZiT v n).take x.1)).map u8))])
  (fun x=>x.1≤n) (fun x=>n-x.1) (0,0) (Nat.zero_le _) (Zaj rfl ?_ ?_ ?_) ?_
 ·exact Nat.le_refl _
 ·(first|exact yT|refine yS ?_)
 ·(first|exact yU BG5|refine yR BG5 ?_)
  rw [hm,hi];exact ⟨rfl,rfl⟩
 rintro ⟨k,g⟩ hk -
 simp only at hk
 repeat (first|refine zS ?_|exact zT)
 refine SWp.cond rfl (fun h=>?_) (fun h=>?_)
 ·simp only [decide_eq_true_eq] at h
  have hkn:k<n:=zO
  have hs:=ZsJ (v:=v) hkn
  obtain ⟨L',hL'⟩:∃ L',L'=L++(ZiT v n).take k:=⟨_,rfl⟩
  have hll:L'.length=i+k:=by rw [hL',List.length_append,List.length_take,Zbv];omega
  have hL2:∀ x∈L',x<2:=by
   rw [hL']
   intro x hx
   rcases List.mem_append.1 hx with h | h
   ·exact hL x h
   ·exact ZuC x (List.mem_of_mem_take h)
  obtain ⟨j,hj⟩:∃ j,j=n-1-k:=⟨_,rfl⟩
  have hj2:(n:Int)-1-(k:Int)=(j:Int):=zO
  have hj3:j≤15:=zO
  obtain ⟨y,hy⟩:∃ y,y=v / 2^j:=⟨_,rfl⟩
  rw [←hj,←hy] at hs
  have hyv:y<33554432:=by rw [hy];exact Nat.lt_of_le_of_lt (Nat.div_le_self _ _) hv
  have hbit:=Zpb L' zO hL2 ((i+k+7) / 8) (i+k) (by rw [hll]) hll.symm (y % 2) (Nat.mod_lt _ zO)
  have hs2:L++(ZiT v n).take (k+1)=L'++[y % 2]:=by rw [hs,hL',List.append_assoc]
  rw [←hL']
  have e78:i+(k+1)+7=i+k+8:=zO
  have hnl:nl0 ((i+k+8) / 8)=false:=Zca zO
  repeat (first|refine zR (ja3 @hj2 hy.symm @wrR.eq_1) ?_|exact zU (ja3 @hj2 hy.symm @wrR.eq_1))
  refine Zae [(1000,0),(1001,g)] 2000 hbit zB zB ?_ ?_ ?_
  iterate 2 (case _=>(first|exact yU BG0|refine yR BG0 ?_))
  repeat (first|refine zR BG0 ?_|exact zU BG0)
  refine At.of (k+1,1+2*k+1) (by simp only;omega) (by simp only;omega) rfl rfl ?_ ?_ ?_
  ·simp only;omega
  iterate 2 (case _=>(first|exact yU (ja5 @wrR.eq_1 @hs2 @e78 @hnl @Int.add_assoc)|refine yR (ja5 @wrR.eq_1 @hs2 @e78 @hnl @Int.add_assoc) ?_))
 ·simp only [decide_eq_false_iff_not] at h
  obtain rfl:k=n:=zO
  have ht:(ZiT v k).take k=ZiT v k:=List.take_of_length_le (by rw [Zbv];exact Nat.le_refl _)
  rw [ht]
  refine SWp.le (Zaj (N:=27) (gc:=60) (l:=[]) (h:=[(1000,0,.row false (wrR g ((i+k+7) / 8) (i+k))),(1001,g,.row (nl0 ((i+k+7) / 8)) ((Zax (L++ZiT v k)).map u8))]) rfl ?_ ?_ ?_) ?_
  ·(first|exact yT|refine yS ?_)
   omega
  iterate 2 (case _=>(first|exact yT|refine yS ?_))
  refine SWp.renew 1001 g (o:=.row (nl0 ((i+k+7) / 8)) ((Zax (L++ZiT v k)).map u8)) yT ?_
  refine SWp.le (Zaj (N:=27) (gc:=61) (l:=[]) (h:=[(1000,0,.row false (wrR 60 ((i+k+7) / 8) (i+k))),(1001,60,.row (nl0 ((i+k+7) / 8)) ((Zax (L++ZiT v k)).map u8))]) rfl ?_ ?_ ?_) ?_
  iterate 3 (case _=>(first|exact yU BG6|refine yR BG6 ?_))
  repeat (first|refine zR iR ?_|exact zU iR)
theorem ZiB [Tabs Tryz.prog] (n i:Nat) (b:List UInt8) (hb:b.length=n) (hn:n≤1000000):HCon Tryz.prog Zgg [.op 1000 0 0] [.row false (wrR 0 n i),.row (nl0 n) (b.map u8)] (.sl (nl0 n) none (b.map u8)) [(1000,0,.row false (wrR 0 n i)),(1001,0,.row (nl0 n) (b.map u8))] 10:=by
 refine HCon.of' mix Tryz.func18 rfl Tryz.ntmps18 Zk3 Zk4 zB (by simp [AV.gl,AV.gl.glL]) Zmd ?_
 unfold ZgB
 have hnl:nl0 n=true→b=[]:=by
  intro h
  cases n with
  | zero=>exact List.eq_nil_of_length_eq_zero hb
  | succ n=>simp [nl0] at h
 have hcl:=Zrc (nl0 n) b zO hnl
 rw [hb] at hcl
 repeat (first|refine zR @wrR.eq_1 ?_|exact zU @wrR.eq_1)
 refine ZG3 [] 2000 hcl zB zB ?_ ?_ rfl ?_ ?_
 ·(first|exact yT|refine yS ?_)
 ·refine ⟨.inr ⟨?_,?_⟩,trivial⟩
  ·(first|exact yU @hb|refine yR @hb ?_)
  ·simp only [AV.free,ZaD]
 ·simp only [foH,ZD2,Bool.and_self]
 iterate 1 (first|refine zR @wrR.eq_1 ?_|exact zU @wrR.eq_1)
 refine SWp.frzo 2005 3 (nl:=nl0 n) (cells:=b.map u8) yT ZaD ?_
 refine SWp.le (Zaj (N:=8) (gc:=4) (l:=[(2,.sl (nl0 n) none (b.map u8))]) (h:=[(1000,0,.row false (wrR 0 n i)),(1001,0,.row (nl0 n) (b.map u8))]) rfl ?_ ?_ ?_) ?_
 iterate 3 (case _=>(first|exact yU (ja3 fR @hb @wrR.eq_1)|refine yR (ja3 fR @hb @wrR.eq_1) ?_))
 repeat (first|refine zR @wrR.eq_1 ?_|exact zU @wrR.eq_1)
def ZjZ (l:List Nat) (s:Nat × Nat × Nat):List Nat:=ZiT ((Za2 l).getD s.1 0) (l.getD s.1 0)++ZbE s.2.1 s.2.2
theorem Zlh {l:List Nat} {s:Nat × Nat × Nat}:∀ x∈ZjZ l s,x<2:=fun x hx=>(List.mem_append.1 hx).elim (ZuC x) (Zfn x)
theorem Zpc {l:List Nat} {s:Nat × Nat × Nat}:(ZjZ l s).length=l.getD s.1 0+s.2.2:=by rw [ZjZ,List.length_append,Zbv,Zar]
structure SyOk (l:List Nat) (s:Nat × Nat × Nat):Prop where
 num:s.1<l.length
 more:s.2.1<16777216
 bits:s.2.2≤24
theorem ZjE {l:List Nat} (h:∀ x∈l,x≤15) {i:Nat} (hi:i<l.length):l.getD i 0≤15:=by
 have:l.getD i 0=l[i]:=by simp [List.getD,hi]
 rw [this];exact h _ (List.getElem_mem _)
theorem Zth {l:List Nat} (h:LnOk l) {i:Nat} (hi:i<l.length):(Za2 l).getD i 0<33554432:=by
 have e:(Za2 l).getD i 0=ZaZ l i:=by simp [Za2,List.getD,hi]
 rw [e,ZaZ]
 split
 ·omega
 ·have h1:=ZzZ h.len (ZjE h.small hi)
  have h2:=Zek (l:=l) (k:=i) (n:=l.getD i 0)
  have:=h.len
  omega
theorem Zep [Tabs Tryz.prog] (L:List Nat) (hl:L.length≤1900000) (hL:∀ x∈L,x<2) (nl:Bool) (l:List Nat) (ho:LnOk l) (s:Nat × Nat × Nat) (hs:SyOk l s) (i m:Nat) (hi:i=L.length) (hm:m=(L.length+7) / 8) (j:Nat) (hj:j=(L++ZjZ l s).length) :
  HCon Tryz.prog Zbn [.agg [.op 1000 0 0],cdA nl l,syA s] [.row false (wrR 0 m i),.row (nl0 m) ((Zax L).map u8)] (.tup [])
   [(1000,0,.row false (wrR 125 ((j+7) / 8) j)),(1001,125,.row (nl0 ((j+7) / 8)) ((Zax (L++ZjZ l s)).map u8))] 126:=by
 refine HCon.of' mix Tryz.func70 rfl Tryz.ntmps70 Ziq Zir zB ?_ Zmd ?_
 ·simp only [AV.gl.glL,AV.gl,cdA,syA,and_true,true_and]
  exact ⟨by omega,Zag _ _ Zaa,Zag _ _ Zaa⟩
 unfold Zeg
 obtain ⟨a,b,c⟩:=s
 have hs1:=hs.num
 have hs2:=hs.more
 have hs3:=hs.bits
 simp only at hs1 hs2 hs3
 have hcl:=Zel (l:=l)
 have g1:((Za2 l).map nA).getD a .junk = .sc (.int .i64 ((Za2 l).getD a 0:Int)):=Zct zO
 have g2:(l.map nA).getD a .junk = .sc (.int .i64 (l.getD a 0:Int)):=Zct hs1
 have hv:=Zth ho hs1
 have hn:=ZjE ho.small hs1
 rw [List.length_append,Zpc] at hj
 obtain ⟨C,hC⟩:∃ C,C=Za2 l:=⟨_,rfl⟩
 have hsy:ZjZ l (a,b,c)=ZiT (C.getD a 0) (l.getD a 0)++ZbE b c:=by rw [ZjZ,hC]
 rw [hsy]
 simp only at hj
 unfold cdA
 rw [←hC] at g1 hv hcl ⊢
 obtain ⟨v,hve⟩:∃ v,v=C.getD a 0:=⟨_,rfl⟩
 obtain ⟨n,hne⟩:∃ v,v=l.getD a 0:=⟨_,rfl⟩
 rw [←hve] at g1 hv ⊢
 rw [←hne] at g2 hn hj ⊢
 have p1:=ZuZ L zO hL v hv n hn i m hi hm
 have hL1:∀ x∈L++ZiT v n,x<2:=fun x hx=>(List.mem_append.1 hx).elim (hL x) (ZuC x)
 have hl1:(L++ZiT v n).length=i+n:=by rw [List.length_append,Zbv,hi]
 have p2:=Zf0 (L++ZiT v n) zO hL1 b hs2 c hs3 (i+n) ((i+n+7) / 8) zO zO
 rw [List.append_assoc] at p2
 have hj2:i+n+c=j:=zO
 rw [hj2] at p2
 obtain ⟨b1,e1⟩:∃ b,b=Zax (L++ZiT v n):=⟨_,rfl⟩
 obtain ⟨b2,e2⟩:∃ x,x=Zax (L++(ZiT v n++ZbE b c)):=⟨_,rfl⟩
 rw [←e1] at p1 p2
 rw [←e2] at p2 ⊢
 repeat (first|refine zR (ja5 @syA.eq_1 @List.length_map.{0,0} @g1 @g2 @hcl) ?_|exact zU (ja5 @syA.eq_1 @List.length_map.{0,0} @g1 @g2 @hcl))
 refine Zae [(1000,0),(1001,0)] 2000 p1 zB zB ?_ ?_ ?_
 iterate 2 (case _=>(first|exact yU @wrR.eq_1|refine yR @wrR.eq_1 ?_))
 repeat (first|refine zR BG0 ?_|exact zU BG0)
 refine Zae [(1000,0),(1001,64)] 3000 p2 zB zB ?_ ?_ ?_
 iterate 2 (case _=>(first|exact yU @wrR.eq_1|refine yR @wrR.eq_1 ?_))
 repeat (first|refine zR BG0 ?_|exact zU BG0)
theorem Zv4 {v n:Nat} (h1:2^n≤v) (h2:v<2^(n+1)) (hn:n<17):Zmq v=n+1:=by
 unfold Zmq
 have e:List.range 17=List.range (n+1)++(List.range (16-n)).map ((n+1)+·):=by
  have:=List.range_add (n:=n+1) (m:=16-n)
  rwa [show n+1+(16-n)=17 by omega] at this
 rw [e,List.countP_append,List.countP_eq_length.2 (fun k hk=>by
  have hk:=List.mem_range.1 hk
  have:2^k≤2^n:=Nat.pow_le_pow_right zO zO
  simp only [decide_eq_true_eq];omega),List.countP_eq_zero.2 (fun k hk=>by
  rw [List.mem_map] at hk
  obtain ⟨j,_,rfl⟩:=hk
  have:2^(n+1)≤2^(n+1+j):=Nat.pow_le_pow_right zO zO
  simp only [decide_eq_true_eq];omega)]
 simp
theorem ZA2 {w:Nat} (h:w<32768):Zi7 w 1<30:=by
 by_cases c:w=0
 ·subst c;decide
 ·obtain ⟨n,h1,h2⟩:∃ n,2^n≤w∧w<2^(n+1):=⟨w.log2,Nat.log2_self_le c,Nat.lt_log2_self⟩
  have hn:n<15:=by
   rcases Nat.lt_or_ge n 15 with h | h
   ·exact h
   ·have:2^15≤2^n:=Nat.pow_le_pow_right zO h
    omega
  have hb:=Zv4 h1 h2 zO
  have hl:ZbO w 1=n-1:=by rw [ZbO,hb];omega
  rw [Zi7,hl]
  have hq:w / 2^(n-1)<4:=by
   rw [Nat.div_lt_iff_lt_mul (Nat.two_pow_pos _)]
   have e4:4*2^(n-1)=2^(n-1+2):=by rw [Nat.pow_add,Nat.mul_comm]
   rw [e4]
   exact Nat.lt_of_lt_of_le h2 (Nat.pow_le_pow_right zO zO)
  by_cases c1:n=0
  ·subst c1
   have:w=1:=zO
   subst this;decide
  ·omega
theorem ZF0:∀ w,w<255→Zi7 w 2<28:=by decide +kernel
theorem Zti {w h:Nat}:ZbO w h≤17:=by have:=ZuW (v:=w);rw [ZbO];omega
theorem Zpd {l:List Nat} (hl:286≤l.length) {p:Nat × Nat} (hp:Zlg p):SyOk l (Ziy p):=by
 obtain ⟨v,b⟩:=p
 simp only [Zlg] at hp
 unfold Ziy
 split
 ·exact ⟨by simp only;omega,by simp,by simp⟩
 split
 ·exact ⟨by simp only;omega,by simp,by simp⟩
 ·rename_i h1 h2
  simp only at h1 h2
  have:=ZF0 (v-3) zO
  exact ⟨by simp only;omega,by simp only;omega,Nat.le_trans Zti zO⟩
theorem Ztj {d:List Nat} (hd:30≤d.length) {p:Nat × Nat} (hp:Zlg p) (h0:0<p.2):SyOk d (Znx p):=by
 obtain ⟨v,b⟩:=p
 simp only [Zlg] at hp
 simp only at h0
 have:=ZA2 (w:=b-1) zO
 exact ⟨by simp only [Znx];omega,by simp only [Znx];omega,Nat.le_trans Zti zO⟩
theorem Ztk {l:List Nat} (hl:286≤l.length):SyOk l (256,0,0):=⟨by simp only;omega,by simp,by simp⟩
def pcB (l d:List Nat) (p:Nat × Nat):List Nat:=ZjZ l (Ziy p)++if 0<p.2 then ZjZ d (Znx p) else []
def Zny (l d:List Nat) (P:List (Nat × Nat)):List Nat:=P.flatMap (pcB l d)++ZjZ l (256,0,0)
theorem ZfV {l:List Nat} (h:LnOk l) {s:Nat × Nat × Nat} (hs:SyOk l s):(ZjZ l s).length≤39:=by
 rw [Zpc]
 have:=ZjE h.small hs.num
 have:=hs.bits
 omega
theorem ZHN {l d:List Nat} {p:Nat × Nat}:∀ x∈pcB l d p,x<2:=fun x hx=>by
 rcases List.mem_append.1 hx with h | h
 ·exact Zlh x h
 ·split at h
  ·exact Zlh x h
  ·simp at h
theorem ZA3 {l d:List Nat} (hl:LnOk l) (hd:LnOk d) (h1:286≤l.length) (h2:30≤d.length) {p:Nat × Nat} (hp:Zlg p):(pcB l d p).length≤78:=by
 rw [pcB,List.length_append]
 have:=ZfV hl (Zpd h1 hp)
 split
 ·rename_i c
  have:=ZfV hd (Ztj h2 hp c)
  omega
 ·simp only [List.length_nil];omega
theorem Zme {l d:List Nat} (hl:LnOk l) (hd:LnOk d) (h1:286≤l.length) (h2:30≤d.length):∀ {P:List (Nat × Nat)},(∀ p∈P,Zlg p)→(P.flatMap (pcB l d)).length≤78*P.length
 | [],_=>Nat.le_refl _
 | p::P,h=>by
  rw [List.flatMap_cons,List.length_append,List.length_cons]
  have:=ZA3 hl hd h1 h2 (h p zB)
  have:=Zme hl hd h1 h2 (P:=P) fun q hq=>h q (by simp [hq])
  omega
theorem ZA4 {l:List (Nat × Nat)} {i:Nat} (h:i<l.length):(l.map pcA).getD i .junk=pcA (l.getD i (0,0)):=by simp [List.getD,h]
set_option maxHeartbeats 1000000 in
theorem ZjF [Tabs Tryz.prog] (L:List Nat) (hl:L.length≤300000) (hL:∀ x∈L,x<2) (nl:Bool) (P:List (Nat × Nat)) (hP:P.length≤20000) (hok:∀ p∈P,Zlg p) (l d:List Nat) (ol:LnOk l) (od:LnOk d) (l1:286≤l.length) (d1:30≤d.length) (i m:Nat) (hi:i=L.length) (hm:m=(L.length+7) / 8) (j:Nat) (hj:j=(L++Zny l d P).length) :
  HCon Tryz.prog Zco [.agg [.op 1000 0 0],.sl nl (some 2) (P.map pcA),Zqx l d] [.row false (wrR 0 m i),.row (nl0 m) ((Zax L).map u8)] (.tup [])
   [(1000,0,.row false (wrR (KE+1) ((j+7) / 8) j)),(1001,KE+1,.row (nl0 ((j+7) / 8)) ((Zax (L++Zny l d P)).map u8))] (KE+2):=by
 refine HCon.of' mix Tryz.func35 rfl Tryz.ntmps35 Zio Zip zB ?_ Zmd ?_
 ·simp only [AV.gl.glL,AV.gl,Zqx,and_true,true_and]
  exact ⟨by omega,Zag _ _ Zeo,Zag _ _ Zaa,Zag _ _ Zaa,Zag _ _ Zaa,Zag _ _ Zaa⟩
 unfold Zef
 obtain ⟨C,hC⟩:∃ C,C=Za2 l:=⟨_,rfl⟩
 obtain ⟨D,hD⟩:∃ D,D=Za2 d:=⟨_,rfl⟩
 unfold Zqx
 rw [←hC,←hD]
 repeat (first|refine zR @List.length_map.{0,0} ?_|exact zU @List.length_map.{0,0})
 obtain ⟨A,hA⟩:∃ A,A=P.map pcA:=⟨_,rfl⟩
 have hAl:A.length=P.length:=by rw [hA,List.length_map]
 rw [←hA]
 refine SWp.loop (α:=Nat × List Nat × Nat × Nat) (fun x=>mk 34 x.2.2.2 [(3,.op 3 1 0),(5,.op 5 2 0),(8,.sl nl (some 2) A),(9,int P.length),(10,int x.1)] [(1000,0,.row false (wrR x.2.2.1 ((x.2.1.length+7) / 8) x.2.1.length)),(1001,x.2.2.1,.row (nl0 ((x.2.1.length+7) / 8)) ((Zax x.2.1).map u8)),(3,1,.row false [.op 1000 0 0]),(5,2,.row false [.sl false none (l.map nA),.sl false none (C.map nA),.sl false none (d.map nA),.sl false none (D.map nA)])])
  (fun x=>x.1≤P.length∧x.2.1=L++(P.take x.1).flatMap (pcB l d)∧(∀ y∈x.2.1,y<2)∧x.2.1.length≤300000+78*x.1∧x.2.2.2≤3+300*x.1) (fun x=>P.length-x.1) (0,L,0,3) ⟨Nat.zero_le _,by simp,hL,by simpa using hl,by simp⟩ (Zaj rfl ?_ ?_ ?_) ?_
 ·exact Nat.le_refl _
 iterate 2 (case _=>(first|exact yU (ja2 @hi @hm)|refine yR (ja2 @hi @hm) ?_))
 rintro ⟨k,X,g,gc⟩ ⟨hk,hX,hX2,hXl,hgc⟩ -
 simp only at hk hX hX2 hXl hgc
 by_cases ck:k<P.length
 ·have dk:decide ((k:Int)<(P.length:Int))=true:=decide_eq_true zO
  obtain ⟨p,hp⟩:∃ p,p=P.getD k (0,0):=⟨_,rfl⟩
  have hpP:p∈P:=by
   have:P.getD k (0,0)=P[k]:=by simp [List.getD,ck]
   rw [hp,this];exact List.getElem_mem _
  have ho:=hok p hpP
  have hg:A.getD k .junk = .agg [.sc (.int .u16 (p.1:Int)),.sc (.int .u16 (p.2:Int))]:=by rw [hA,ZA4 ck,←hp];rfl
  have htk:(P.take (k+1)).flatMap (pcB l d)=(P.take k).flatMap (pcB l d)++pcB l d p:=by
   rw [ZgS (d:=(0,0)) ck,←hp,List.flatMap_append];simp
  have hpl:=ZA3 ol od l1 d1 ho
  obtain ⟨Y,hY⟩:∃ Y,Y=X++ZjZ l (Ziy p):=⟨_,rfl⟩
  have hYl:Y.length≤X.length+39:=by
   rw [hY,List.length_append];have:=ZfV ol (Zpd l1 ho);omega
  have hY2:∀ y∈Y,y<2:=fun y hy=>by rw [hY] at hy;exact (List.mem_append.1 hy).elim (hX2 y) (Zlh y)
  have p1:=Zep X zO hX2 false l ol (Ziy p) (Zpd l1 ho) X.length ((X.length+7) / 8) rfl rfl Y.length (by rw [hY])
  rw [←hY,cdA,←hC] at p1
  have lc:=Ztf p ho
  rw [pcA] at lc
  have ir:=ZuX p
  rw [pcA] at ir
  have hrS:∀ ρ,ren ρ (syA (Ziy p))=syA (Ziy p):=fun ρ=>rfl
  obtain ⟨S,hS⟩:∃ S,S=syA (Ziy p):=⟨_,rfl⟩
  rw [←hS] at p1 lc hrS
  repeat (first|refine zR (ja3 @dk @hAl @hg) ?_|exact zU (ja3 @dk @hAl @hg))
  refine Zaz _ (.inl ⟨rfl,lc⟩) ?_
  repeat (first|refine zS ?_|exact zT)
  refine Zae [(1000,0),(1001,g)] 2000 p1 zB zB ?_ ?_ ?_
  iterate 2 (case _=>(first|exact yU (ja3 @wrR.eq_1 iR @hrS)|refine yR (ja3 @wrR.eq_1 iR @hrS) ?_))
  by_cases c0:0<p.2
  ·have e0:decide (0<p.2)=true:=decide_eq_true c0
   rw [e0] at ir
   obtain ⟨Z,hZ⟩:∃ Z,Z=Y++ZjZ d (Znx p):=⟨_,rfl⟩
   have hZl:Z.length=X.length+(pcB l d p).length:=by rw [hZ,hY,pcB,if_pos c0];simp [Nat.add_assoc]
   have p2:=Zep Y zO hY2 false d od (Znx p) (Ztj d1 ho c0) Y.length ((Y.length+7) / 8) rfl rfl Z.length (by rw [hZ])
   rw [←hZ,cdA,←hD] at p2
   have dc:=ZqA p c0 (by have:=ho;simp only [Zlg] at this;omega)
   rw [pcA] at dc
   have hrS2:∀ ρ,ren ρ (syA (Znx p))=syA (Znx p):=fun ρ=>rfl
   obtain ⟨S2,hS2⟩:∃ S2,S2=syA (Znx p):=⟨_,rfl⟩
   rw [←hS2] at p2 dc hrS2
   repeat (first|refine zR BG0 ?_|exact zU BG0)
   refine Zaz _ (.inl ⟨rfl,ir⟩) ?_
   repeat (first|refine zR BG0 ?_|exact zU BG0)
   refine Zaz _ (.inl ⟨rfl,dc⟩) ?_
   repeat (first|refine zR BG0 ?_|exact zU BG0)
   refine Zae [(1000,0),(1001,gc+1+125)] 3000 p2 zB zB ?_ ?_ ?_
   iterate 2 (case _=>(first|exact yU (ja3 @wrR.eq_1 iR @hrS2)|refine yR (ja3 @wrR.eq_1 iR @hrS2) ?_))
   repeat (first|refine zR BG0 ?_|exact zU BG0)
   refine At.of (k+1,Z,gc+1+126+125,gc+1+126+126) ⟨by simp only;omega,by simp only;rw [hZ,hY,htk,hX,pcB,if_pos c0];simp [List.append_assoc],fun y hy=>by simp only at hy;rw [hZ] at hy;exact (List.mem_append.1 hy).elim (hY2 y) (Zlh y),by simp only;omega,by simp only;omega⟩ (by simp only;omega) rfl rfl (Nat.le_refl _) ?_ ?_
   iterate 2 (case _=>(first|exact yU @wrR.eq_1|refine yR @wrR.eq_1 ?_))
  ·have e0:decide (0<p.2)=false:=decide_eq_false c0
   rw [e0] at ir
   repeat (first|refine zR BG0 ?_|exact zU BG0)
   refine Zaz _ (.inl ⟨rfl,ir⟩) ?_
   repeat (first|refine zR BG0 ?_|exact zU BG0)
   refine At.of (k+1,Y,gc+1+125,gc+1+126) ⟨by simp only;omega,by simp only;rw [hY,htk,hX,pcB,if_neg c0];simp [List.append_assoc],hY2,by simp only;omega,by simp only;omega⟩ (by simp only;omega) rfl rfl (Nat.le_refl _) ?_ ?_
   iterate 2 (case _=>(first|exact yU @wrR.eq_1|refine yR @wrR.eq_1 ?_))
 ·have dk:decide ((k:Int)<(P.length:Int))=false:=decide_eq_false zO
  rw [List.take_of_length_le zO] at hX
  obtain ⟨Y,hY⟩:∃ Y,Y=X++ZjZ l (256,0,0):=⟨_,rfl⟩
  have hYe:L++Zny l d P=Y:=by rw [hY,hX,Zny];simp [List.append_assoc]
  have p1:=Zep X zO hX2 false l ol (256,0,0) (Ztk l1) X.length ((X.length+7) / 8) rfl rfl Y.length (by rw [hY])
  rw [←hY,cdA,←hC] at p1
  have hsy:syA (256,0,0) = .agg [.sc (.int .i64 256),.sc (.int .i64 0),.sc (.int .i64 0)]:=rfl
  rw [hsy] at p1
  rw [hYe] at hj ⊢
  rw [hj]
  have hKE:=ZFZ
  obtain ⟨z,hz⟩:∃ z,KE+1=z+125:=⟨KE-124,by omega⟩
  have hz2:KE+2=z+126:=zO
  rw [hz,hz2]
  iterate 5 (first|refine zR @dk ?_|exact zU @dk)
  refine SWp.le (Zaj (N:=34) (gc:=z) (l:=[(3,.op 3 1 0),(5,.op 5 2 0)]) (h:=[(1000,0,.row false (wrR g ((X.length+7) / 8) X.length)),(1001,g,.row (nl0 ((X.length+7) / 8)) ((Zax X).map u8)),(3,1,.row false [.op 1000 0 0]),(5,2,.row false [.sl false none (l.map nA),.sl false none (C.map nA),.sl false none (d.map nA),.sl false none (D.map nA)])]) rfl ?_ ?_ ?_) ?_
  ·show gc≤z
   omega
  iterate 2 (case _=>(first|exact yT|refine yS ?_))
  repeat (first|refine zS ?_|exact zT)
  refine Zae [(1000,0),(1001,g)] 2000 p1 zB zB ?_ ?_ ?_
  iterate 2 (case _=>(first|exact yU BG0|refine yR BG0 ?_))
  repeat (first|refine zR BG0 ?_|exact zU BG0)
theorem Zj0 (v:Nat):∀ (n:Nat),Zeq (ZbE v n)=v % 2^n
 | 0=>by simp [ZbE,Zeq,Nat.mod_one]
 | n+1=>by
  have e:ZbE v (n+1)=ZbE v n++[v / 2^n % 2]:=by simp [ZbE,List.range_succ]
  rw [e,ZeU,Zj0 v n,Zar]
  simp only [Zeq,Nat.mul_zero,Nat.add_zero]
  rw [Nat.pow_succ,Nat.mod_mul]
theorem ZA5 {c:UInt8}:Zeq (ZdA c)=c.toNat:=by
 have:=Zj0 c.toNat 8
 rw [Nat.mod_eq_of_lt (by have:=c.toNat_lt;omega)] at this
 exact this
theorem ZA6 {X:List UInt8}:∀ (k:Nat),(Zah X).drop (8*k)=Zah (X.drop k):=by
 intro k
 have e:Zah X=Zah (X.take k)++Zah (X.drop k):=by rw [←ZbD,List.take_append_drop]
 rw [e]
 by_cases h:k≤X.length
 ·rw [List.drop_append_of_le_length (by rw [Zac,List.length_take];omega)]
  rw [List.drop_of_length_le (by rw [Zac,List.length_take];omega)]
  rfl
 ·rw [List.drop_of_length_le (i:=k) zO]
  simp only [Zah,List.flatMap_nil,List.append_nil]
  exact List.drop_of_length_le (by have:=Zac (l:=X.take k);simp only [Zah] at this;rw [this,List.length_take];omega)
theorem Zf1 {X:List UInt8}:Zax (Zah X)=X:=by
 refine List.ext_getElem (by rw [Za9,Zac];omega) fun k h1 h2=>?_
 rw [Za9,Zac] at h1
 simp only [Zax,List.getElem_map,List.getElem_range,ZhY]
 rw [ZA6,List.drop_eq_getElem_cons h2]
 have:(Zah (X[k]::X.drop (k+1))).take 8=ZdA X[k]:=by
  simp only [Zah,List.flatMap_cons]
  rw [List.take_append_of_le_length (by rw [ZaW];omega),List.take_of_length_le (by rw [ZaW];omega)]
 rw [this,ZA5]
 exact UInt8.ofNat_toNat
def ZF1 (L:List Nat):List Nat:=L++List.replicate (8*((L.length+7) / 8)-L.length) 0
theorem Zu0 {L:List Nat}:(ZF1 L).length=8*((L.length+7) / 8):=by rw [ZF1,List.length_append,List.length_replicate];omega
theorem ZqE:∀ (n:Nat),Zeq (List.replicate n 0)=0
 | 0=>rfl
 | n+1=>by rw [List.replicate_succ,Zeq,ZqE n]
theorem ZA7 {L:List Nat}:Zax (ZF1 L)=Zax L:=by
 have hl:((ZF1 L).length+7) / 8=(L.length+7) / 8:=by rw [Zu0];omega
 unfold Zax
 rw [hl]
 refine List.map_congr_left fun k hk=>?_
 have hk:=List.mem_range.1 hk
 by_cases h:8*k+8≤L.length
 ·exact Ziu h
 ·unfold ZhY ZF1
  have e:8*((L.length+7) / 8)-L.length=8*k+8-L.length:=zO
  rw [List.drop_append_of_le_length zO,e,List.take_of_length_le (by rw [List.length_append,List.length_drop,List.length_replicate];omega),List.take_of_length_le (by rw [List.length_drop];omega),ZeU,ZqE]
  simp
theorem Zmf [Tabs Tryz.prog] (B:List UInt8) (hB:B.length≤2000000) (i m:Nat) (hm:m=B.length) :
  HCon Tryz.prog ZdN [.op 1000 0 0] [.row false (wrR 0 m i),.row (nl0 m) (B.map u8)] (.tup [])
   [(1000,0,.row false (wrR 0 m (8*m))),(1001,0,.row (nl0 m) (B.map u8))] 1:=by
 refine HCon.of' mix Tryz.func67 rfl Tryz.ntmps67 Zk7 Zk8 zB (by simp [AV.gl,AV.gl.glL]) Zmd ?_
 unfold ZgD
 have e:(m:Int)*8=((8*m:Nat):Int):=zO
 repeat (first|refine xR (ja3 @wrR.eq_1 iR @e) ?_|exact xU (ja3 @wrR.eq_1 iR @e))
theorem ZDz {a:Nat} {y:List UInt8}:(nl0 a&&(y.map u8).isEmpty)=nl0 (a+y.length):=by
 cases y with
 | nil=>simp
 | cons c y=>simp [nl0]
theorem Zu1 [Tabs Tryz.prog] (X:List UInt8) (hX:X.length≤1000000) (nl:Bool) (b:List UInt8) (hb:b.length≤1000000) (i m:Nat) (hm:m=X.length) :
  HCon Tryz.prog ZhD [.op 1000 0 0,.sl nl none (b.map u8)] [.row false (wrR 0 m i),.row (nl0 m) (X.map u8)] (.tup [])
   [(1000,0,.row false (wrR 1 (m+b.length) (8*(m+b.length)))),(1001,1,.row (nl0 (m+b.length)) ((X++b).map u8))] 3:=by
 refine HCon.of' mix Tryz.func69 rfl Tryz.ntmps69 ZmP ZmQ zB (by simp only [AV.gl,AV.gl.glL,and_true];exact ⟨by omega,Zag _ _ ZaD⟩) Zmd ?_
 unfold ZhR
 have hadd:=ZDz (a:=m) (y:=b)
 obtain ⟨B,hB⟩:∃ B,B=X++b:=⟨_,rfl⟩
 have hBl:B.length=m+b.length:=by rw [hB,List.length_append,hm]
 have hrow:X.map u8++b.map u8=B.map u8:=by rw [hB,List.map_append]
 have al:=Zmf B zO i (m+b.length) zO
 rw [←hB]
 repeat (first|refine xR (ja3 @wrR.eq_1 @hadd @hrow) ?_|exact xU (ja3 @wrR.eq_1 @hadd @hrow))
 refine Zae [(1000,0),(1001,1)] 2000 al zB zB ?_ ?_ ?_
 iterate 2 (case _=>(first|exact vU BG0|refine vR BG0 ?_))
 repeat (first|refine xR BG0 ?_|exact xU BG0)
end Go.Proofs.YtfplkgciebjehabGreatDoor.Aw
