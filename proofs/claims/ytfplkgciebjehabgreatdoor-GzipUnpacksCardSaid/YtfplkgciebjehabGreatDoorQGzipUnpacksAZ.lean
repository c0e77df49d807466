/- Parts of the proof of GzipUnpacks. -/
import Derived.Test.YtfplkgciebjehabGreatDoorQGzipUnpacksAY
namespace Go.Proofs.YtfplkgciebjehabGreatDoor.Aw
open Go
set_option linter.unusedSimpArgs false
set_option linter.unusedVariables false
section
variable {P:Program} [Tabs P] {st st':ASt}
theorem HCon.of' {f N:Nat} {fn:Func} {ins:List AV} {hin:List AO} {out:AV} {hout:List (Nat × Nat × AO)} {k:Nat} {S:SCode} {rs:List RV} (hm:P.follows .mixedOrders=true) (hf:P.funcs[f]? = some fn) (hb:fn.body.isSome=true) (hN:fn.ntmps=N)
  (hs:Zam P N (fn.body.getD .skip)=S) (hrs:Zaf P fn=some rs) (hn:ins.length≤N) (hgl:AV.gl.glL 1 ins) (hgo:∀ nl cells,AO.row nl cells∈hin→AV.gl.glL 1 cells) (h:SWp P S (ZBD rs out hout k) (Zms N ins hin)):HCon P f ins hin out hout k:=by
 obtain ⟨code,hc⟩:=Option.isSome_iff_exists.1 hb
 subst hN
 exact HCon.of hm hf hc (by rw [hc] at hs;exact hs) hrs hn hgl hgo h
theorem Zyp {rs:List RV} {out:AV} {hout:List (Nat × Nat × AO)} {k:Nat}:ZBD rs out hout k .ret st=(Zjb st rs∧Zhl st rs=out∧AllHp st.hp hout∧st.gc≤k):=rfl
theorem Zrb {rs:List RV} {out:AV} {hout:List (Nat × Nat × AO)} {k:Nat}:ZBD rs out hout k .normal st=(Zjb st rs∧Zhl st rs=out∧AllHp st.hp hout∧st.gc≤k):=rfl
@[congr] theorem ZBF {rs:List RV} {out:AV} {hout:List (Nat × Nat × AO)} {k:Nat} {e e':Ex} (h:e=e') (h':st=st'):ZBD rs out hout k e st=ZBD rs out hout k e' st':=by rw [h,h']
theorem ZCg:Znd []=ZcR []:=by
 funext i;simp [Znd,ZcR]
theorem ZCh {a:AO}:Znd [a]=ZcR [(1000,0,a)]:=by
 funext i
 simp only [Znd,ZcR]
 by_cases h:i=1000
 ·subst h;simp
 ·rw [if_neg h]
  split
  ·rw [List.getElem?_eq_none (by simp;omega)];rfl
  ·rfl
theorem ZCi {a b:AO}:Znd [a,b]=ZcR [(1000,0,a),(1001,0,b)]:=by
 funext i
 simp only [Znd,ZcR]
 by_cases h:i=1000
 ·subst h;simp
 ·by_cases h':i=1001
  ·subst h';simp
  ·rw [if_neg h,if_neg h']
   split
   ·rw [List.getElem?_eq_none (by simp;omega)];rfl
   ·rfl
theorem ZCj {a b c:AO}:Znd [a,b,c]=ZcR [(1000,0,a),(1001,0,b),(1002,0,c)]:=by
 funext i
 simp only [Znd,ZcR]
 by_cases h:i=1000
 ·subst h;simp
 ·by_cases h':i=1001
  ·subst h';simp
  ·by_cases h2:i=1002
   ·subst h2;simp
   ·rw [if_neg h,if_neg h',if_neg h2]
    split
    ·rw [List.getElem?_eq_none (by simp;omega)];rfl
    ·rfl
theorem Zv7 {N:Nat} {ins:List AV} {hin:List AO}:Zms N ins hin=⟨fun t=>ins.getD t .junk,Znd hin,1,N⟩:=rfl
theorem Zab {f:Nat} {ins:List AV} {d:Option Nat} {K:ASt→Prop} (hs:List (Nat × Nat)) (D:Nat) {insC:List AV} {hin:List AO} {out:AV} {hout:List (Nat × Nat × AO)} {k:Nat} (hc:HCon P f insC hin out hout k)
  (hn:(hs.map (·.1)).Nodup) (hD:∀ p∈hs,p.1<D) (hh:ZjH st.hp (rho hs D st.gc) hs hin) (ha:ins=ren.renL (rho hs D st.gc) insC)
  (hK:K (ASt.put ⟨st.tm,Zl1 st.hp hs D st.gc hout,st.gc+k,st.N⟩ d (ren (rho hs D st.gc) out))):goC P true f ins d st K :=
 .inr ⟨rfl,_,_,_,.inl ⟨hs,D,insC,hin,out,hout,k,hc,hn,hD,hh,.inl ha,rfl,rfl,rfl⟩,hK⟩
theorem ZCk {f:Nat} {ins:List AV} {d:Option Nat} {K:ASt→Prop} (hs:List (Nat × Nat)) (D:Nat) {insC:List AV} {hin:List AO} {out:AV} {hout:List (Nat × Nat × AO)} {k:Nat} (hc:HCon P f insC hin out hout k)
  (hn:(hs.map (·.1)).Nodup) (hD:∀ p∈hs,p.1<D) (hh:ZjH st.hp (rho hs D st.gc) hs hin) (ha:Zxz (Zlt st.hp hs) (rho hs D st.gc) ins insC) (hfo:out.fo=true) (hfo':foH hout=true)
  (hK:K (ASt.put ⟨st.tm,Zl1 st.hp hs D st.gc hout,st.gc+k,st.N⟩ d (ren (rho hs D st.gc) out))):goC P true f ins d st K :=
 .inr ⟨rfl,_,_,_,.inl ⟨hs,D,insC,hin,out,hout,k,hc,hn,hD,hh,.inr ⟨ha,hfo,hfo'⟩,rfl,rfl,rfl⟩,hK⟩
theorem ZkK {f:Nat} {ins:List AV} {d:Option Nat} {K:ASt→Prop} (id g:Nat) {nl:Bool} {cells:List AV} (insC:List AV) (out:AV) (hid:st.hp id=some (g,.row nl cells)) (hcf:AV.free.freeL cells=true) (hi:fzo.fzoL id g nl cells ins=insC) (hfree:AV.free.freeL insC=true)
  (hc:Con P f insC out) (hK:K (ASt.put ⟨st.tm,Za8 st.hp id none,st.gc,st.N⟩ d out)):goC P true f ins d st K :=
 .inr ⟨rfl,_,_,_,.inr ⟨id,g,nl,cells,hid,hcf,by rw [hi];exact hfree,by rw [hi];exact hc,rfl,rfl⟩,hK⟩
theorem Zaq {t:Bool} {f:Nat} {ins:List AV} {d:Option Nat} {K:ASt→Prop} (out:AV) (hc:Zl0 P f ins st.hp out) (hK:K (st.put d out)):goC P t f ins d st K:=.inl ⟨out,hc,hK⟩
def sw (i j k:Nat):Nat:=if k=i then j else if k=j then i else k
theorem ZAd (i j k:Nat):sw i j (sw i j k)=k:=by
 unfold sw
 by_cases h:k=i
 ·subst h;by_cases e:j=k
  ·simp [e]
  ·simp [e]
 ·by_cases h':k=j
  ·subst h';simp [h]
  ·simp [h,h']
def swr (i j:Nat):Nat→Nat→Nat × Nat:=fun id g=>(sw i j id,g)
theorem Zli {i j id g:Nat}:swr i j id g=(sw i j id,g):=rfl
def swH (i j:Nat) (hp:Hp):Hp:=fun id=>match hp (sw i j id) with
 | some (g,o)=>some (g,o.ren (swr i j))
 | none=>none
def Zd3:Option (Nat × AO)→Prop
 | none=>True
 | some (g,_)=>1≤g
theorem SWp.swap {Q:Ex→ASt→Prop} {c:SCode} (i j:Nat) (hi:Zd3 (st.hp i)) (hj:Zd3 (st.hp j)) (h:SWp P c Q ⟨fun t=>ren (swr i j) (st.tm t),swH i j st.hp,st.gc,st.N⟩):SWp P c Q st:=by
 intro hm code hc w0 M Z G a w hR
 have hob:∀ id g ob,G.ob (sw i j (sw i j id)) g=some ob→G.ob id g=some ob:=fun id g ob ho=>by rwa [ZAd] at ho
 have hS:false=false→∀ b,G.S b→G.S b:=fun _ _ h=>h
 refine h hm code hc w0 M Z ⟨G.S,fun id g=>G.ob (sw i j id) g⟩ a w ⟨hR.keep,⟨hR.heap.lt,?_,?_,?_,?_⟩,hR.size,?_,?_,hR.defers,hR.fr,⟨hR.ext.S,hR.ext.cells,hR.ext.shape,?_⟩,hR.lc,hR.lc1,hR.tabs⟩
 ·intro id g ob ho
  obtain ⟨o,h1⟩:=hR.heap.live _ _ _ ho
  exact ⟨o.ren (swr i j),by simp only [swH];rw [h1]⟩
 ·intro id g nl cells ho
  simp only [swH] at ho
  cases hx:st.hp (sw i j id) with
  | none=>rw [hx] at ho;simp at ho
  | some p =>
   obtain ⟨g',nl',cells'⟩:=p
   rw [hx] at ho
   simp only [AO.ren,Option.some.injEq,Prod.mk.injEq,AO.row.injEq] at ho
   obtain ⟨rfl,rfl,rfl⟩:=ho
   obtain ⟨q1,q2⟩:=hR.heap.gl _ _ _ _ hx
   exact ⟨q1,Zh3 (fun id g h=>h) _ q2⟩
 ·intro id g id' g' b h1 h2
  have:=hR.heap.inj _ _ _ _ _ h1 h2
  rw [←ZAd i j id,this,ZAd]
 ·intro id g nl cells ho
  simp only [swH] at ho
  cases hx:st.hp (sw i j id) with
  | none=>rw [hx] at ho;simp at ho
  | some p =>
   obtain ⟨g',nl',cells'⟩:=p
   rw [hx] at ho
   simp only [AO.ren,Option.some.injEq,Prod.mk.injEq,AO.row.injEq] at ho
   obtain ⟨rfl,rfl,rfl⟩:=ho
   obtain ⟨ob,k1,k2,k3,k4⟩:=hR.heap.row _ _ _ _ hx
   refine ⟨ob,k1,k2,fun e=>by rw [k3 e];rfl,fun b hb=>?_⟩
   obtain ⟨q1,q2,us,q4,q3⟩:=k4 b hb
   exact ⟨q1,q2,us,RdL.ren (G:=G) (G':=⟨G.S,fun id g=>G.ob (sw i j id) g⟩) (ρ:=swr i j) (B:=false) hS hob _ _ (by simp) q4,q3⟩
 ·intro t
  exact Rd.ren (G:=G) (G':=⟨G.S,fun id g=>G.ob (sw i j id) g⟩) (ρ:=swr i j) (B:=false) hS hob _ _ (by simp) (hR.tm t)
 ·intro t
  exact Zpd (fun id g h=>h) _ (hR.gl t)
 ·intro id g ob hg ho
  have hl:=hR.lc1
  obtain ⟨o,h1⟩:=hR.heap.live _ _ _ ho
  have e:sw i j id=id:=by
   unfold sw at h1 ⊢
   by_cases e1:id=i
   ·exfalso
    rw [if_pos e1] at h1
    rw [h1] at hj
    simp only [Zd3] at hj;omega
   ·rw [if_neg e1] at h1 ⊢
    by_cases e2:id=j
    ·exfalso
     rw [if_pos e2] at h1
     rw [h1] at hi
     simp only [Zd3] at hi;omega
    ·rw [if_neg e2]
  simp only [e] at ho
  exact hR.ext.ob _ _ _ hg ho
theorem ZDl {D c id g:Nat}:rho [] D c id g=(D+id,c+g):=ZcS (by simp [Za9])
theorem ZCl {p:Nat × Nat} {D c id g:Nat} (h:1001≤id):rho [p] D c id g=(D+id,c+g):=ZcS (by simp [Za9];omega)
theorem ZCm {p q:Nat × Nat} {D c id g:Nat} (h:1002≤id):rho [p,q] D c id g=(D+id,c+g):=ZcS (by simp [Za9];omega)
theorem ZCn {p q r:Nat × Nat} {D c id g:Nat} (h:1003≤id):rho [p,q,r] D c id g=(D+id,c+g):=ZcS (by simp [Za9];omega)
theorem Zyq {c:UInt8}:Zqk (.sc (.int .u8 c.toNat))=c:=by simp [Zqk]
theorem Zpu {b:List UInt8} {k:Nat} {c:UInt8} (h:k<b.length):(b.take k).map u8++(.sc (.int .u8 c.toNat)::(b.drop (k+1)).map u8)=(b.set k c).map u8:=by
 rw [List.set_eq_take_append_cons_drop,if_pos h]
 simp [u8]
theorem Zhm {xs ys:List AV}:AV.free.freeL (xs++ys)=(AV.free.freeL xs&&AV.free.freeL ys):=by
 induction xs with
 | nil=>simp [AV.free.freeL]
 | cons x xs ih=>simp [AV.free.freeL,ih,Bool.and_assoc]
theorem ZAe {ρ:Nat→Nat→Nat × Nat} {l:List UInt8}:ren.renL ρ (l.map u8)=l.map u8:=Zdz ρ _ (by rw [ZcZ];intro x hx;obtain ⟨c,_,rfl⟩:=List.mem_map.1 hx;rfl)
theorem Zpv {ρ:Nat→Nat→Nat × Nat} {x:AV} {xs:List AV}:ren.renL ρ (x::xs)=ren ρ x::ren.renL ρ xs:=rfl
theorem Zv8 {ρ:Nat→Nat→Nat × Nat}:ren.renL ρ []=[]:=rfl
theorem Zrc {ρ:Nat→Nat→Nat × Nat} {xs ys:List AV}:ren.renL ρ (xs++ys)=ren.renL ρ xs++ren.renL ρ ys:=by
 induction xs with
 | nil=>rfl
 | cons x xs ih=>simp only [List.cons_append,Zpv,ih]
theorem Zrd {hp:Hp} {ρ:Nat→Nat→Nat × Nat} {p:Nat × Nat} {hs:List (Nat × Nat)} {o:AO} {hin:List AO}:ZjH hp ρ (p::hs) (o::hin)=(hp p.1=some (p.2,o.ren ρ)∧ZjH hp ρ hs hin):=rfl
theorem Zua {hp:Hp} {ρ:Nat→Nat→Nat × Nat}:ZjH hp ρ [] []=True:=rfl
theorem ZCo {ρ:Nat→Nat→Nat × Nat} {nl:Bool} {cells:List AV}:(AO.row nl cells).ren ρ = .row nl (ren.renL ρ cells):=rfl
theorem ZCp {ρ:Nat→Nat→Nat × Nat} {v:Value}:ren ρ (.sc v) = .sc v:=rfl
theorem ZAf {ρ:Nat→Nat→Nat × Nat} {id g lo n:Nat} {es:Option Nat}:ren ρ (.own id g es lo n) = .own (ρ id g).1 (ρ id g).2 es lo n:=rfl
theorem ZCq {ρ:Nat→Nat→Nat × Nat} {id g o:Nat}:ren ρ (.op id g o) = .op (ρ id g).1 (ρ id g).2 o:=rfl
theorem ZAg {ρ:Nat→Nat→Nat × Nat} {xs:List AV}:ren ρ (.agg xs) = .agg (ren.renL ρ xs):=rfl
theorem ZAh {ρ:Nat→Nat→Nat × Nat} {xs:List AV}:ren ρ (.tup xs) = .tup (ren.renL ρ xs):=rfl
theorem ZCr {ρ:Nat→Nat→Nat × Nat} {nl:Bool} {es:Option Nat} {xs:List AV}:ren ρ (.sl nl es xs) = .sl nl es (ren.renL ρ xs):=rfl
theorem Zyr {ρ:Nat→Nat→Nat × Nat}:ren ρ .junk = .junk:=rfl
theorem Zv9 {hp:Hp} {hs:List (Nat × Nat)} {D c:Nat}:Zl1 hp hs D c []=Zlt hp hs:=rfl
theorem Zub {hp:Hp} {hs:List (Nat × Nat)} {D c id g:Nat} {o:AO} {r:List (Nat × Nat × AO)}:Zl1 hp hs D c ((id,g,o)::r)=Za8 (Zl1 hp hs D c r) (rho hs D c id g).1 (some ((rho hs D c id g).2,o.ren (rho hs D c))):=rfl
theorem Zwa {hp:Hp}:Zlt hp []=hp:=rfl
theorem Zuc {hp:Hp} {p:Nat × Nat} {r:List (Nat × Nat)}:Zlt hp (p::r)=Za8 (Zlt hp r) p.1 none:=rfl
theorem ZCs {p:Nat × Nat} {hs:List (Nat × Nat)} {D c:Nat}:rho (p::hs) D c 1000 0=p:=by simp [rho,Za9]
theorem ZAi {p:Nat × Nat} {hs:List (Nat × Nat)} {D c g:Nat}:rho (p::hs) D c 1000 (g+1)=(p.1,c+(g+1)):=by simp [rho,Za9]
theorem ZCt {p q:Nat × Nat} {hs:List (Nat × Nat)} {D c:Nat}:rho (p::q::hs) D c 1001 0=q:=by simp [rho,Za9]
theorem ZCu {p q r:Nat × Nat} {hs:List (Nat × Nat)} {D c:Nat}:rho (p::q::r::hs) D c 1002 0=r:=by simp [rho,Za9]
theorem ZAj {p q r:Nat × Nat} {hs:List (Nat × Nat)} {D c g:Nat}:rho (p::q::r::hs) D c 1002 (g+1)=(r.1,c+(g+1)):=by simp [rho,Za9]
theorem ZAk {p q:Nat × Nat} {hs:List (Nat × Nat)} {D c g:Nat}:rho (p::q::hs) D c 1001 (g+1)=(q.1,c+(g+1)):=by simp [rho,Za9]
theorem ZDm {hs:List (Nat × Nat)} {D c id g:Nat} (h:id<1000):rho hs D c id g=(D+id,c+g):=by unfold rho;rw [if_neg];intro e;have:=e.1;omega
end
end Go.Proofs.YtfplkgciebjehabGreatDoor.Aw
