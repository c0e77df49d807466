/- Parts of the proof of DeflateBack. -/
import Derived.Test.YtfplkgciebjehabGreatDoorQDeflateBackBE
namespace Go.Proofs.YtfplkgciebjehabGreatDoor.Aw
open Go
set_option linter.defProp false
set_option maxRecDepth 100000
set_option linter.unusedSimpArgs false
set_option linter.unusedVariables false
theorem ZdB [Tabs Tryz.prog] (nl:Bool) (l:List Nat) (h15:∀ x∈l,x≤15) (hl:l.length≤320) (hK:Zav l≤32768):Con Tryz.prog Zcc [.sl nl none (l.map nA)] (.tup [.fp (.agg (trR l)) 0,int 0]):=by
 have h:=ZpL nl (l.map Int.ofNat) (by rw [ZHt h15 hl,if_neg zO]) l toNat_ofNat.symm
 rw [←Zx5] at h
 exact h
theorem Zle [Tabs Tryz.prog] (nl:Bool) (l:List Nat) (h15:∀ x∈l,x≤15) (hl:l.length≤1000):Con Tryz.prog Zgf [.sl nl none (l.map nA)] (boo (fulN l)):=by
 have h:=ZuE nl (l.map Int.ofNat) (by rw [List.length_map];exact hl)
 rw [←Zx5] at h
 have e:Zl1 (l.map Int.ofNat)=fulN l:=by
  unfold Zl1 fulN
  rw [toNat_ofNat]
  by_cases c:l.length≤320
  ·rw [ZHt h15 c]
   by_cases c2:Zav l=32768
   ·rw [if_neg zO,decide_eq_true c2,decide_eq_true (show l.length≤320∧Zav l=32768 from ⟨c,c2⟩)];rfl
   ·rw [decide_eq_false c2,Bool.and_false,decide_eq_false (fun h=>c2 h.2)]
  ·rw [decide_eq_false (fun h:l.length≤320∧_=>c h.1),decide_eq_false,Bool.false_and]
   unfold chk
   rw [List.length_map,if_pos zO]
   omega
 rw [e] at h
 exact h
theorem ZbR:(∀ x∈ZpO,x≤15)∧ZpO.length=288∧Zav ZpO=32768:=by decide +kernel
theorem Zb5:(∀ x∈Zqp,x≤15)∧Zqp.length=32∧Zav Zqp=32768:=by decide +kernel
def BF1:=ja2 fR iR
theorem ZnV [Tabs Tryz.prog]:Con Tryz.prog Zfx [] (cds ZpO Zqp):=by
 refine Con.of' mix Tryz.func45 rfl Tryz.ntmps45 Zka Zkb zB rfl Zl4 ?_
 unfold ZfA
 have p1:=ZaX 8 144 zO zO
 have p2:=ZaX 9 112 zO zO
 have p3:=ZaX 7 24 zO zO
 have p4:=ZaX 8 8 zO zO
 have p5:=ZaX 5 32 zO zO
 have pc:=Zjx (List.replicate 144 8) (List.replicate 112 9) (List.replicate 24 7) (List.replicate 8 8) zB zB
 have t1:=ZdB false ZpO ZbR.1 (by rw [ZbR.2.1];omega) (by rw [ZbR.2.2];omega)
 have t2:=ZdB false Zqp Zb5.1 (by rw [Zb5.2.1];omega) (by rw [Zb5.2.2];omega)
 have hL:List.replicate 144 8++(List.replicate 112 9++(List.replicate 24 7++List.replicate 8 8))=ZpO:=rfl
 have hD:List.replicate 32 5=Zqp:=rfl
 rw [hL] at pc
 rw [hD] at p5
 obtain ⟨A,hA⟩:∃ A,A=List.replicate 144 8:=⟨_,rfl⟩
 obtain ⟨B,hB⟩:∃ B,B=List.replicate 112 9:=⟨_,rfl⟩
 obtain ⟨C,hC⟩:∃ C,C=List.replicate 24 7:=⟨_,rfl⟩
 obtain ⟨D,hDd⟩:∃ D,D=List.replicate 8 8:=⟨_,rfl⟩
 rw [←hA] at p1 pc
 rw [←hB] at p2 pc
 rw [←hC] at p3 pc
 rw [←hDd] at p4 pc
 repeat (first|refine xR BF1 ?_|exact xU BF1)
 refine Zfj 6 0 (nl:=false) (cells:=[.sc (.int .i64 8)]) [.sl false none [.sc (.int .i64 ((8:Nat):Int))],int ((144:Nat):Int)] _ vT (vU @Zaa) ?_ (vU @Zaa) p1 ?_
 ·(first|exact vU BF1|refine vR BF1 ?_)
 repeat (first|refine xR BF1 ?_|exact xU BF1)
 refine Zfj 8 1 (nl:=false) (cells:=[.sc (.int .i64 9)]) [.sl false none [.sc (.int .i64 ((9:Nat):Int))],int ((112:Nat):Int)] _ vT (vU @Zaa) ?_ (vU @Zaa) p2 ?_
 ·(first|exact vU BF1|refine vR BF1 ?_)
 repeat (first|refine xR BF1 ?_|exact xU BF1)
 refine Zfj 10 2 (nl:=false) (cells:=[.sc (.int .i64 7)]) [.sl false none [.sc (.int .i64 ((7:Nat):Int))],int ((24:Nat):Int)] _ vT (vU @Zaa) ?_ (vU @Zaa) p3 ?_
 ·(first|exact vU BF1|refine vR BF1 ?_)
 repeat (first|refine xR BF1 ?_|exact xU BF1)
 refine Zfj 12 3 (nl:=false) (cells:=[.sc (.int .i64 8)]) [.sl false none [.sc (.int .i64 ((8:Nat):Int))],int ((8:Nat):Int)] _ vT (vU @Zaa) ?_ (vU @Zaa) p4 ?_
 ·(first|exact vU BF1|refine vR BF1 ?_)
 repeat (first|refine xR BF1 ?_|exact xU BF1)
 refine Zaz _ (.inl ⟨by simp only [AV.free,AV.free.freeL,Zaa,Bool.and_self],pc⟩) ?_
 repeat (first|refine xR BF1 ?_|exact xU BF1)
 refine Zaz _ (.inl ⟨by simp only [AV.free,AV.free.freeL,Zaa,Bool.and_self],t1⟩) ?_
 repeat (first|refine xR BF1 ?_|exact xU BF1)
 refine Zfj 20 4 (nl:=false) (cells:=[.sc (.int .i64 5)]) [.sl false none [.sc (.int .i64 ((5:Nat):Int))],int ((32:Nat):Int)] _ vT (vU @Zaa) ?_ (vU @Zaa) p5 ?_
 ·(first|exact vU BF1|refine vR BF1 ?_)
 repeat (first|refine xR BF1 ?_|exact xU BF1)
 refine Zaz _ (.inl ⟨by simp only [AV.free,AV.free.freeL,Zaa,Bool.and_self],t2⟩) ?_
 repeat (first|refine xR (ja2 @cds.eq_1 @Zb9) ?_|exact xU (ja2 @cds.eq_1 @Zb9))
theorem ZDl {l:List Nat} {k:Nat} (h:k<l.length):(l.take (k+1)).sum=(l.take k).sum+l.getD k 0:=by
 rw [ZgS (d:=0) h,List.sum_append];simp
theorem Zrs:∀ {l:List Nat},(∀ x∈l,x≤15)→l.sum≤15*l.length
 | [],_=>by simp
 | x::l,h=>by
  have:=Zrs (l:=l) fun y hy=>h y (by simp [hy])
  have:=h x zB
  simp only [List.sum_cons,List.length_cons];omega
theorem ZFJ {n:Nat}:wt n≤16384*n:=by
 unfold wt
 split
 ·omega
 ·rename_i h
  have h2:2^1≤2^n:=ZaR zO
  have:32768 / 2^n≤32768 / 2:=Nat.div_le_div_left (by simpa using h2) zO
  omega
theorem ZAb {l:List Nat}:Zav l≤16384*l.sum:=by
 induction l with
 | nil=>simp [Zav]
 | cons x l ih=>simp only [Zav,List.sum_cons];have:=ZFJ (n:=x);omega
theorem Zqq {d:List Nat} (h:ZDb d=true):Zav d≤32768:=by
 have:=ZAb (l:=d)
 simp only [ZDb,fulN,Bool.or_eq_true,decide_eq_true_eq] at h
 omega
def BF12:=ja2 @List.take_zero.{0} @List.sum_nil.{0}
theorem ZoW [Tabs Tryz.prog] (nl:Bool) (l:List Nat) (h15:∀ x∈l,x≤15) (hl:l.length≤1000):Con Tryz.prog Zgh [.sl nl none (l.map nA)] (boo (ZDb l)):=by
 refine Con.of' mix Tryz.func132 rfl Tryz.ntmps132 ZkZ Zk0 zB (by simp only [AV.free,AV.free.freeL,Zaa,Bool.and_self]) rfl ?_
 unfold Zgz
 have hf:=Zle nl l h15 hl
 repeat (first|refine zS ?_|exact zT)
 refine SWp.loop (α:=Nat) (fun k=>mk 22 0 [(0,.sl nl none (l.map nA)),(3,int ((l.take k).sum:Nat)),(6,.sl nl none (l.map nA)),(7,int l.length),(8,int k)] [])
  (fun k=>k≤l.length) (fun k=>l.length-k) 0 (Nat.zero_le _) (Zaj rfl ?_ ?_ ?_) ?_
 ·exact Nat.le_refl _
 iterate 2 (case _=>(first|exact yU BF12|refine yR BF12 ?_))
 rintro k hk -
 have hsl:=Zrs (l:=l.take k) fun x hx=>h15 x (List.mem_of_mem_take hx)
 have htl:(l.take k).length≤1000:=by rw [List.length_take];omega
 repeat (first|refine zS ?_|exact zT)
 refine SWp.cond rfl (fun h=>?_) (fun h=>?_)
 ·simp only [decide_eq_true_eq] at h
  have hkl:k<l.length:=zO
  have hs:=ZDl hkl
  have hx15:l.getD k 0≤15:=by
   have:l.getD k 0=l[k]:=by simp [List.getD,List.getElem?_eq_getElem hkl]
   rw [this];exact h15 _ (List.getElem_mem hkl)
  obtain ⟨x,hx⟩:∃ x,x=l.getD k 0:=⟨_,rfl⟩
  obtain ⟨y,hy⟩:∃ y,y=(l.take k).sum:=⟨_,rfl⟩
  rw [←hx] at hs hx15
  rw [←hy] at hs hsl
  repeat (first|refine zR (ja3 iR hx.symm hy.symm) ?_|exact zU (ja3 iR hx.symm hy.symm))
  refine At.of (k+1) zO zO rfl rfl (Nat.le_refl _) ?_ ?_
  iterate 2 (case _=>(first|exact yU @hs|refine yR @hs ?_))
 ·simp only [decide_eq_false_iff_not] at h
  obtain rfl:k=l.length:=zO
  rw [List.take_length] at hsl htl
  obtain ⟨y,hy⟩:∃ y,y=l.sum:=⟨_,rfl⟩
  have hfe:ZDb l=(decide (y≤1) || fulN l):=by rw [hy];rfl
  rw [hfe]
  by_cases c:y≤1
  ·have d:decide ((y:Int)≤1)=true:=decide_eq_true zO
   rw [decide_eq_true c,Bool.true_or]
   repeat (first|refine zR (ja3 @List.take_length.{0} hy.symm @d) ?_|exact zU (ja3 @List.take_length.{0} hy.symm @d))
  ·have d:decide ((y:Int)≤1)=false:=decide_eq_false zO
   rw [decide_eq_false c,Bool.false_or]
   repeat (first|refine zR (ja3 @List.take_length.{0} hy.symm @d) ?_|exact zU (ja3 @List.take_length.{0} hy.symm @d))
   refine Zaz _ (.inl ⟨by simp only [AV.free,AV.free.freeL,Zaa,Bool.and_self],hf⟩) ?_
   repeat (first|refine zS ?_|exact zT)
theorem Zrt [Tabs Tryz.prog] (n1 n2:Bool) (l d:List Nat) (hl15:∀ x∈l,x≤15) (hd15:∀ x∈d,x≤15) (hl:257≤l.length) (hl2:l.length≤320) (hd:d.length≤320) :
  Con Tryz.prog ZhF [.sl n1 none (l.map nA),.sl n2 none (d.map nA)] (if ZuJ l d=true then .tup [cds l d,int 0] else .tup [.sc (.pointer none),int 3]):=by
 have hfr:(if ZuJ l d=true then AV.tup [cds l d,int 0] else .tup [.sc (.pointer none),int 3]).free=true:=by
  by_cases c:ZuJ l d=true
  ·rw [if_pos c];simp only [AV.free,AV.free.freeL,Zl4,int,Bool.and_self]
  ·rw [if_neg c];rfl
 refine Con.of' mix Tryz.func95 rfl Tryz.ntmps95 ZmJ ZmK zB (by simp only [AV.free,AV.free.freeL,Zaa,Bool.and_self]) hfr ?_
 clear hfr
 unfold ZhM
 have hf:=Zle n1 l hl15 zO
 have hw:=ZoW n2 d hd15 zO
 have hfl:AV.free.freeL [.sl n1 none (l.map nA)]=true:=by simp only [AV.free,AV.free.freeL,Zaa,Bool.and_self]
 have hfd:AV.free.freeL [.sl n2 none (d.map nA)]=true:=by simp only [AV.free,AV.free.freeL,Zaa,Bool.and_self]
 obtain ⟨x,hx⟩:∃ x,x=l.getD 256 0:=⟨_,rfl⟩
 have hco:ZuJ l d=(decide (x≠0)&&fulN l&&ZDb d):=by rw [hx];rfl
 rw [hco]
 by_cases c1:x=0
 ·have d1:decide ((x:Int)=0)=true:=decide_eq_true zO
  rw [decide_eq_false (by simpa using c1),Bool.false_and,Bool.false_and,if_neg zB]
  repeat (first|refine zR (ja3 iR hx.symm @d1) ?_|exact zU (ja3 iR hx.symm @d1))
 have d1:decide ((x:Int)=0)=false:=decide_eq_false zO
 rw [decide_eq_true (by simpa using c1),Bool.true_and]
 cases c2:fulN l with
 | false =>
  rw [c2] at hf
  rw [Bool.false_and,if_neg zB]
  repeat (first|refine zR (ja3 iR hx.symm @d1) ?_|exact zU (ja3 iR hx.symm @d1))
  refine Zaz _ (.inl ⟨hfl,hf⟩) ?_
  repeat (first|refine zR (ja3 iR hx.symm @d1) ?_|exact zU (ja3 iR hx.symm @d1))
 | true =>
  rw [c2] at hf
  rw [Bool.true_and]
  cases c3:ZDb d with
  | false =>
   rw [c3] at hw
   rw [if_neg zB]
   repeat (first|refine zR (ja3 iR hx.symm @d1) ?_|exact zU (ja3 iR hx.symm @d1))
   refine Zaz _ (.inl ⟨hfl,hf⟩) ?_
   repeat (first|refine zR (ja3 iR hx.symm @d1) ?_|exact zU (ja3 iR hx.symm @d1))
   refine Zaz _ (.inl ⟨hfd,hw⟩) ?_
   repeat (first|refine zR (ja3 iR hx.symm @d1) ?_|exact zU (ja3 iR hx.symm @d1))
  | true =>
   rw [c3] at hw
   rw [if_pos rfl]
   have t1:=ZdB n1 l hl15 hl2 (by simp only [fulN,decide_eq_true_eq] at c2;omega)
   have t2:=ZdB n2 d hd15 hd (Zqq c3)
   repeat (first|refine zR (ja3 iR hx.symm @d1) ?_|exact zU (ja3 iR hx.symm @d1))
   refine Zaz _ (.inl ⟨hfl,hf⟩) ?_
   repeat (first|refine zR (ja3 iR hx.symm @d1) ?_|exact zU (ja3 iR hx.symm @d1))
   refine Zaz _ (.inl ⟨hfd,hw⟩) ?_
   repeat (first|refine zR (ja3 iR hx.symm @d1) ?_|exact zU (ja3 iR hx.symm @d1))
   refine Zaz _ (.inl ⟨hfl,t1⟩) ?_
   repeat (first|refine zR (ja3 iR hx.symm @d1) ?_|exact zU (ja3 iR hx.symm @d1))
   refine Zaz _ (.inl ⟨hfd,t2⟩) ?_
   repeat (first|refine zR (ja3 iR @cds.eq_1 @Zb9) ?_|exact zU (ja3 iR @cds.eq_1 @Zb9))
   all_goals trace_state
theorem ZvK:∀ k,k<19→Ziv.getD k 0<19:=by decide
theorem ZAc {b:List UInt8} {i:Nat}:ZaY b i 3≤7:=by have:=Ze1 (b:=b) (i:=i) (n:=3);omega
theorem ZAd {b:List UInt8}:∀ (n k i j:Nat) (l th:List Nat),l.length=19→(∀ x∈l,x≤7)→i≤8*b.length→(ZpN n k l).run (Zah b) i = .ok th j→th.length=19∧∀ x∈th,x≤7:=by
 intro n
 induction n with
 | zero=>intro k i j l th h1 h2 hi h;simp only [ZpN,BT.run,BR.ok.injEq] at h;obtain ⟨rfl,rfl⟩:=h;exact ⟨h1,h2⟩
 | succ n ih =>
  intro k i j l th h1 h2 hi h
  simp only [ZpN,Zal] at h
  rw [ZeX hi] at h
  split at h
  ·simp only [BR.bnd] at h
   refine ih _ _ _ _ _ (by rw [List.length_set];exact h1) ?_ zO h
   intro x hx
   rcases List.mem_or_eq_of_mem_set hx with hx | rfl
   ·exact h2 x hx
   ·exact ZAc
  ·cases h
def Zes {α:Type} (good:α→AV):BR α→AV
 | .ok a _=>.tup [good a,int 0]
 | .no e=>.tup [.sc (.pointer none),int (e:Int)]
def ZbN {α:Type} (t:Bool) (most:Nat) (nl:Bool) (b:List UInt8) (out:List UInt8):BR α→List (Nat × Nat × AO)
 | .ok _ j=>unO 0 t most nl b j out
 | .no _=>[]
def Zhq (l:List Nat):AV:=.fp (.agg (trR l)) 0
theorem ZsV {l:List Nat}:(Zhq l).free=true:=by simp only [Zhq,AV.free,Zb9]
theorem Zn7 {ρ:Nat→Nat→Nat × Nat} {l:List Nat}:ren ρ (Zhq l)=Zhq l:=Zid ρ _ ZsV
def BF11:=ja6 @unR.eq_1 @rdR.eq_1 @Zes.eq_1 @Zes.eq_2 @ZbN.eq_1 @ZbN.eq_2
def BF13:=ja8 @Zes.eq_1 @Zes.eq_2 @ZbN.eq_1 @ZbN.eq_2 @unO.eq_1 @Zhq.eq_1 @unR.eq_1 @rdR.eq_1
def BF14:=ja4 @Zes.eq_1 @Zes.eq_2 @ZbN.eq_1 @ZbN.eq_2
set_option maxHeartbeats 1000000 in
theorem ZsW [Tabs Tryz.prog] (ht:Tabs.tab Tryz.prog 1=some (Ziv.map nA)) (t:Bool) (most:Nat) (nl:Bool) (b:List UInt8) (hb:b.length≤1000000) (i:Nat) (hi:i≤8*b.length) (out:List UInt8) (n:Nat) (hn:n≤19) (r:BR (List Nat)) (hr:(ZvC n).run (Zah b) i=r) :
  HCon Tryz.prog Zdv [.op 1000 0 0,int (n:Int)] (unI t most nl b i out) (Zes Zhq r) (ZbN t most nl b out r) 1000:=by
 refine HCon.of' mix Tryz.func93 rfl Tryz.ntmps93 Zhl Zhm zB (by simp [AV.gl,AV.gl.glL,int]) Zfe ?_
 unfold Zdy
 have hG:∀ st,ev Tryz.prog st (.global 1) = .fp (.agg (Ziv.map nA)) 0:=fun st=>ZoI ht
 obtain ⟨TT,hTT⟩:∃ TT,TT=Ziv:=⟨_,rfl⟩
 have hTl:TT.length=19:=by rw [hTT];rfl
 have hTx:∀ k,k<19→TT.getD k 0<19:=by rw [hTT];exact ZvK
 have hz:(List.replicate 19 [AV.sc (.int .i64 0)]).flatten=(List.replicate 19 0).map nA:=ZsM
 rw [ZvC,Zal] at hr
 rw [←hTT] at hG
 obtain ⟨Z,hZ⟩:∃ Z:List Nat,Z=List.replicate 19 0:=⟨_,rfl⟩
 have hZl:Z.length=19:=by rw [hZ];rfl
 have hZ7:∀ x∈Z,x≤7:=by rw [hZ];simp
 rw [←hZ] at hz hr
 have hok:=ZAd (b:=b) n 0 i
 obtain ⟨r0,hr0⟩:∃ r0,(ZpN n 0 Z).run (Zah b) i=r0:=⟨_,rfl⟩
 rw [hr0] at hr
 repeat (first|refine xR (ja2 @unI.eq_1 @hz) ?_|exact xU (ja2 @unI.eq_1 @hz))
 refine SWp.loop (α:=Nat × List Nat × Nat) (fun x=>mk 39 (2+30*x.1) [(0,.op 1000 0 0),(6,.own 10 1 none 0 19),(11,int (n:Int)),(12,int (x.1:Int))] [(1000,0,.row false (unR t most 0 out.length)),(1001,0,.row false (rdR nl b x.2.2)),(1002,0,.row (nl0 out.length) (out.map u8)),(10,1,.row false (x.2.1.map nA))])
  (fun x=>x.1≤n∧(ZpN (n-x.1) x.1 x.2.1).run (Zah b) x.2.2=r0∧x.2.1.length=19∧(∀ y∈x.2.1,y≤7)∧x.2.2≤8*b.length) (fun x=>n-x.1) (0,Z,i) ⟨Nat.zero_le _,hr0,hZl,hZ7,hi⟩ (Zaj rfl ?_ ?_ ?_) ?_
 ·exact Nat.le_refl _
 iterate 2 (case _=>(first|exact vT|refine vS ?_))
 rintro ⟨k,l,p⟩ ⟨hk,hx,hll,hl7,hp⟩ -
 simp only at hk hx hll hl7 hp
 repeat (first|refine xS ?_|exact xT)
 refine SWp.cond rfl (fun h=>?_) (fun h=>?_)
 ·simp only [decide_eq_true_eq] at h
  obtain ⟨f,hf⟩:∃ f,n-k=f+1:=⟨n-k-1,by omega⟩
  rw [hf,ZpN,Zal,ZeX hp] at hx
  by_cases c1:p+3≤8*b.length
  ·rw [if_pos c1] at hx
   simp only [BR.bnd] at hx
   have hT:=ZeV nl b hb p hp 3 zO c1
   have hv7:=ZAc (b:=b) (i:=p)
   obtain ⟨v,hv⟩:∃ v,v=ZaY b p 3:=⟨_,rfl⟩
   rw [←hv] at hT hx hv7
   have hw:=hTx k zO
   rw [←hTT] at hx
   obtain ⟨w,hwd⟩:∃ w,w=TT.getD k 0:=⟨_,rfl⟩
   rw [←hwd] at hx hw
   have hsp:=ZbJ (l:=l) (k:=w) (x:=v) zO
   repeat (first|refine xR @unR.eq_1 ?_|exact xU @unR.eq_1)
   refine Zae [(1001,0)] 2000 hT zB zB ?_ ?_ ?_
   iterate 2 (case _=>(first|exact vU @rdR.eq_1|refine vR @rdR.eq_1 ?_))
   repeat (first|refine xR (ja7 @unR.eq_1 @rdR.eq_1 @hG iR hwd.symm @hTl @hll) ?_|exact xU (ja7 @unR.eq_1 @rdR.eq_1 @hG iR hwd.symm @hTl @hll))
   refine At.of (k+1,l.set w v,p+3) ⟨by simp only;omega,by simp only;rw [show n-(k+1)=f by omega];exact hx,by simp only [List.length_set];exact hll,?_,c1⟩ (by simp only;omega) rfl rfl ?_ ?_ ?_
   ·intro y hy
    rcases List.mem_or_eq_of_mem_set hy with hy | rfl
    ·exact hl7 y hy
    ·exact hv7
   ·simp only;omega
   iterate 2 (case _=>(first|exact vU (ja3 @unR.eq_1 @rdR.eq_1 @hsp)|refine vR (ja3 @unR.eq_1 @rdR.eq_1 @hsp) ?_))
  ·rw [if_neg c1] at hx
   simp only [BR.bnd] at hx
   subst hx
   simp only [BR.bnd] at hr
   subst hr
   have hT:=Zd2 nl b hb p hp 3 (decide_eq_false zO)
   repeat (first|refine xR @unR.eq_1 ?_|exact xU @unR.eq_1)
   refine Zae [(1001,0)] 2000 hT zB zB ?_ ?_ ?_
   iterate 2 (case _=>(first|exact vU @rdR.eq_1|refine vR @rdR.eq_1 ?_))
   repeat (first|refine xR BF11 ?_|exact xU BF11)
   omega
 ·simp only [decide_eq_false_iff_not] at h
  obtain rfl:k=n:=zO
  rw [Nat.sub_self,ZpN] at hx
  simp only [BT.run] at hx
  subst hx
  simp only [BR.bnd] at hr
  have hf:=Zle false l (fun x hx=>by have:=hl7 x hx;omega) zO
  have hfr:AV.free.freeL [.sl false none (l.map nA)]=true:=by simp only [AV.free,AV.free.freeL,Zaa,Bool.and_self]
  have htk:l.take 19=l:=List.take_of_length_le zO
  by_cases c2:fulN l=true
  ·rw [if_pos c2] at hr
   simp only [BT.run] at hr
   subst hr
   rw [c2] at hf
   have t1:=ZdB false l (fun x hx=>by have:=hl7 x hx;omega) zO (by simp only [fulN,decide_eq_true_eq] at c2;omega)
   repeat (first|refine xS ?_|exact xT)
   refine Zaz (boo true) (.inr ⟨rfl,?_,?_⟩) ?_
   ·(first|exact vU (ja3 iR @hll @htk)|refine vR (ja3 iR @hll @htk) ?_)
   ·(first|exact vU (ja3 iR @hll @htk)|refine vR (ja3 iR @hll @htk) ?_)
    exact hf
   repeat (first|refine xS ?_|exact xT)
   refine Zfj 10 1 (nl:=false) (cells:=l.map nA) [.sl false none (l.map nA)] _ vT (vU @Zaa) ?_ hfr t1 ?_
   ·(first|exact vU (ja4 fR iR @hll @htk)|refine vR (ja4 fR iR @hll @htk) ?_)
   repeat (first|refine xR BF13 ?_|exact xU BF13)
   omega
  ·rw [if_neg c2] at hr
   simp only [BT.run] at hr
   subst hr
   rw [Bool.not_eq_true] at c2
   rw [c2] at hf
   repeat (first|refine xS ?_|exact xT)
   refine Zaz (boo false) (.inr ⟨rfl,?_,?_⟩) ?_
   ·(first|exact vU (ja3 iR @hll @htk)|refine vR (ja3 iR @hll @htk) ?_)
   ·(first|exact vU (ja3 iR @hll @htk)|refine vR (ja3 iR @hll @htk) ?_)
    exact hf
   repeat (first|refine xR BF14 ?_|exact xU BF14)
   omega
def Zex:BR (List Nat)→AV
 | .ok l _=>.tup [.sl false none (l.map nA),int 0]
 | .no e=>.tup [.sc (.slice none 0 0),int (e:Int)]
theorem ZuM {a c:Nat} (h:0<c):nl0 (a+c)=false:=Zca zO
def BF0:=ja4 @unI.eq_1 @unR.eq_1 @rdR.eq_1 @Zab
def BF2:=ja2 @unR.eq_1 @Zhq.eq_1
def BF3:=ja2 @rdR.eq_1 @Zad
def BF5:=ja2 @unR.eq_1 @rdR.eq_1
def BF15:=ja4 @Zex.eq_1 @Zex.eq_2 @ZbN.eq_1 @ZbN.eq_2
def BF16:=ja7 @Zex.eq_1 @Zex.eq_2 @ZbN.eq_1 @ZbN.eq_2 @unO.eq_1 @unR.eq_1 @rdR.eq_1
set_option maxHeartbeats 2000000 in
theorem Zru [Tabs Tryz.prog] (t:Bool) (most:Nat) (nl:Bool) (b:List UInt8) (hb:b.length≤1000000) (i:Nat) (hi:i≤8*b.length) (out:List UInt8) (th:List Nat) (hth:th.length=19) (hK:Zav th≤32768) (n:Nat) (hn0:0<n) (hn:n<400) (r:BR (List Nat)) (hr:(lsT th n 400 []).run (Zah b) i=r) :
  HCon Tryz.prog Zdb [.op 1000 0 0,Zhq th,int (n:Int)] (unI t most nl b i out) (Zex r) (ZbN t most nl b out r) 500000:=by
 refine HCon.of' mix Tryz.func94 rfl Tryz.ntmps94 ZgO ZgP zB (by simp only [AV.gl.glL,AV.gl,int,and_true];exact ⟨by omega,ZbP 1 _ ZsV⟩) Zfe ?_
 unfold Zdg
 repeat (first|refine zR @unI.eq_1 ?_|exact zU @unI.eq_1)
 refine SWp.adopt 8 none yT ?_
 refine SWp.loop (α:=Nat × List Nat × Nat × Nat × Nat) (fun x=>mk 70 x.2.2.2.2 [(0,.op 1000 0 0),(1,Zhq th),(2,int (n:Int)),(8,.own 8 x.2.2.2.1 none 0 x.2.1.length)] [(1000,0,.row false (unR t most 0 out.length)),(1001,0,.row false (rdR nl b x.2.2.1)),(1002,0,.row (nl0 out.length) (out.map u8)),(8,x.2.2.2.1,.row (nl0 x.2.1.length) (x.2.1.map nA))])
  (fun x=>(lsT th n x.1 x.2.1).run (Zah b) x.2.2.1=r∧x.2.2.1≤8*b.length∧x.2.1.length≤n∧n-x.2.1.length<x.1∧(∀ y∈x.2.1,y≤18)∧x.2.2.2.2+1000*x.1≤400002) (fun x=>x.1) (400,[],i,1,2) ⟨hr,hi,Nat.zero_le _,by simp only [List.length_nil];omega,by simp,by simp only;omega⟩ (Zaj rfl ?_ ?_ ?_) ?_
 ·exact Nat.le_refl _
 iterate 2 (case _=>(first|exact yU @Zbh|refine yR @Zbh ?_))
 rintro ⟨f,l,p,g,c⟩ ⟨hx,hp,hln,hf,hl18,hc⟩ -
 simp only at hx hp hln hf hl18 hc
 obtain ⟨f,rfl⟩:∃ f',f=f'+1:=⟨f-1,by omega⟩
 rw [lsT] at hx
 repeat (first|refine zS ?_|exact zT)
 refine SWp.cond rfl (fun h=>?_) (fun h=>?_)
 ·simp only [decide_eq_true_eq] at h
  have hlt:l.length<n:=zO
  rw [if_neg zO,Zal,ZmY] at hx
  have hfc:=Zh0 (l:=th) (B:=(Zah b).drop p) 15 0 0 (Nat.zero_le _)
  have hsy:=Zjw (l:=th) (B:=(Zah b).drop p) 15 0 0
  have hN:=Zlc th zO hK nl b hb p hp _ rfl
  rw [List.length_drop,Zac] at hfc
  obtain ⟨⟨sy,m,e⟩,hr2⟩:∃ r,r=nxt th ((Zah b).drop p) 15 0 0:=⟨_,rfl⟩
  rw [←hr2] at hfc hsy hN hx
  simp only at hfc hsy hN
  clear hr2 hr
  by_cases c2:e=0
  ·subst c2
   have hsy:=hsy rfl
   obtain ⟨q,hq⟩:∃ q,q=p+m:=⟨_,rfl⟩
   have hq8:q≤8*b.length:=zO
   simp only [Zys,if_true,BR.bnd] at hx
   rw [←hq] at hN hx
   by_cases c16:sy=16∧l=[]
   ·rw [if_pos c16] at hx
    simp only [BT.run] at hx
    subst hx
    obtain ⟨rfl,rfl⟩:=c16
    repeat (first|refine zR BF2 ?_|exact zU BF2)
    refine Zae [(1001,0)] 2000 hN zB zB ?_ ?_ ?_
    iterate 2 (case _=>(first|exact yU BF3|refine yR BF3 ?_))
    repeat (first|refine zR BF15 ?_|exact zU BF15)
    omega
   ·rw [if_neg c16,Zal] at hx
    obtain ⟨V,hV⟩:∃ V,V=lsV sy l:=⟨_,rfl⟩
    obtain ⟨N,hN1⟩:∃ N,N=lsN sy:=⟨_,rfl⟩
    obtain ⟨Bt,hBt⟩:∃ B,B=lsB sy:=⟨_,rfl⟩
    have hV18:V≤18:=by
     rw [hV];unfold lsV
     split
     ·rename_i e16
      have hne:l≠[]:=fun h=>c16 ⟨e16,h⟩
      have h0:l.length-1<l.length:=by have:=List.length_pos_iff.2 hne;omega
      have:l.getD (l.length-1) 0=l[l.length-1]:=by simp [List.getD,List.getElem?_eq_getElem h0]
      rw [this];exact hl18 _ (List.getElem_mem h0)
     ·split
      ·omega
      ·omega
    have hN3:1≤N∧N≤11:=by rw [hN1];unfold lsN;split <;> (try split) <;> omega
    have hB7:Bt≤7:=by rw [hBt];unfold lsB;split <;> (try split) <;> (try split) <;> omega
    rw [←hV,←hN1,←hBt] at hx
    have hA:=ZmZ t most nl b hb q hq8 out N Bt zO zO
    have hAi:=fun a j (h:(Zfd N Bt).run (Zah b) q = .ok a j)=>(Zh1 h).2 (by rw [Zac];exact hq8)
    have hA2:=fun a j (h:(Zfd N Bt).run (Zah b) q = .ok a j)=>And.intro (Zrj ZdI h) (ZC9 h)
    have hp7:2^Bt≤128:=ZaR (n:=Bt) (m:=7) hB7
    obtain ⟨r1,hr1⟩:∃ r,r=(Zfd N Bt).run (Zah b) q:=⟨_,rfl⟩
    rw [←hr1] at hA hAi hA2 hx
    cases r1 with
    | no e1 =>
     simp only [BR.bnd] at hx
     subst hx
     have de:decide ((e1:Int)=0)=false:=decide_eq_false (by have:=hA.1;omega)
     by_cases e16:sy=16
     ·subst e16
      have hl0:0<l.length:=List.length_pos_iff.2 fun h=>c16 ⟨rfl,h⟩
      have dl:decide ((l.length:Int)=0)=false:=decide_eq_false zO
      obtain ⟨z,hz⟩:∃ z,z=l.length-1:=⟨_,rfl⟩
      have ez:(l.length:Int)-1=(z:Int):=zO
      have hVz:l.getD z 0=V:=by rw [hV,hz];rfl
      obtain rfl:N=3:=hN1
      obtain rfl:Bt=2:=hBt
      repeat (first|refine zR BF2 ?_|exact zU BF2)
      refine Zae [(1001,0)] 2000 hN zB zB ?_ ?_ ?_
      iterate 2 (case _=>(first|exact yU BF3|refine yR BF3 ?_))
      repeat (first|refine zR (ja6 @unR.eq_1 @rdR.eq_1 @dl @ez iR @hVz) ?_|exact zU (ja6 @unR.eq_1 @rdR.eq_1 @dl @ez iR @hVz))
      refine Zae [(1000,0),(1001,0),(1002,0)] 3000 hA.2 zB zB ?_ ?_ ?_
      iterate 2 (case _=>(first|exact yU BF0|refine yR BF0 ?_))
      repeat (first|refine zR (ja8 @unO.eq_1 @unR.eq_1 @rdR.eq_1 @Zab @noI.eq_1 @Zex.eq_1 @Zex.eq_2 (ja3 @ZbN.eq_1 @ZbN.eq_2 @de)) ?_|exact zU (ja8 @unO.eq_1 @unR.eq_1 @rdR.eq_1 @Zab @noI.eq_1 @Zex.eq_1 @Zex.eq_2 (ja3 @ZbN.eq_1 @ZbN.eq_2 @de)))
      omega
     have d16:decide ((sy:Int)=16)=false:=decide_eq_false zO
     by_cases e17:sy=17
     ·subst e17
      obtain rfl:V=0:=hV
      obtain rfl:N=3:=hN1
      obtain rfl:Bt=3:=hBt
      repeat (first|refine zR BF2 ?_|exact zU BF2)
      refine Zae [(1001,0)] 2000 hN zB zB ?_ ?_ ?_
      iterate 2 (case _=>(first|exact yU BF3|refine yR BF3 ?_))
      repeat (first|refine zR BF5 ?_|exact zU BF5)
      refine Zae [(1000,0),(1001,0),(1002,0)] 3000 hA.2 zB zB ?_ ?_ ?_
      iterate 2 (case _=>(first|exact yU BF0|refine yR BF0 ?_))
      repeat (first|refine zR (ja8 @unO.eq_1 @unR.eq_1 @rdR.eq_1 @Zab @noI.eq_1 @Zex.eq_1 @Zex.eq_2 (ja3 @ZbN.eq_1 @ZbN.eq_2 @de)) ?_|exact zU (ja8 @unO.eq_1 @unR.eq_1 @rdR.eq_1 @Zab @noI.eq_1 @Zex.eq_1 @Zex.eq_2 (ja3 @ZbN.eq_1 @ZbN.eq_2 @de)))
      omega
     have d17:decide ((sy:Int)=17)=false:=decide_eq_false zO
     by_cases e18:sy=18
     ·subst e18
      obtain rfl:V=0:=hV
      obtain rfl:N=11:=hN1
      obtain rfl:Bt=7:=hBt
      repeat (first|refine zR BF2 ?_|exact zU BF2)
      refine Zae [(1001,0)] 2000 hN zB zB ?_ ?_ ?_
      iterate 2 (case _=>(first|exact yU BF3|refine yR BF3 ?_))
      repeat (first|refine zR BF5 ?_|exact zU BF5)
      refine Zae [(1000,0),(1001,0),(1002,0)] 3000 hA.2 zB zB ?_ ?_ ?_
      iterate 2 (case _=>(first|exact yU BF0|refine yR BF0 ?_))
      repeat (first|refine zR (ja8 @unO.eq_1 @unR.eq_1 @rdR.eq_1 @Zab @noI.eq_1 @Zex.eq_1 @Zex.eq_2 (ja3 @ZbN.eq_1 @ZbN.eq_2 @de)) ?_|exact zU (ja8 @unO.eq_1 @unR.eq_1 @rdR.eq_1 @Zab @noI.eq_1 @Zex.eq_1 @Zex.eq_2 (ja3 @ZbN.eq_1 @ZbN.eq_2 @de)))
      omega
     have d18:decide ((sy:Int)=18)=false:=decide_eq_false zO
     obtain rfl:V=sy:=by rw [hV,lsV,if_neg e16,if_neg zO]
     obtain rfl:N=1:=by rw [hN1,lsN,if_neg zO,if_neg e18]
     obtain rfl:Bt=0:=by rw [hBt,lsB,if_neg e16,if_neg e17,if_neg e18]
     repeat (first|refine zR BF2 ?_|exact zU BF2)
     refine Zae [(1001,0)] 2000 hN zB zB ?_ ?_ ?_
     iterate 2 (case _=>(first|exact yU BF3|refine yR BF3 ?_))
     repeat (first|refine zR (ja5 @unR.eq_1 @rdR.eq_1 @d16 @d17 @d18) ?_|exact zU (ja5 @unR.eq_1 @rdR.eq_1 @d16 @d17 @d18))
     refine Zae [(1000,0),(1001,0),(1002,0)] 3000 hA.2 zB zB ?_ ?_ ?_
     iterate 2 (case _=>(first|exact yU BF0|refine yR BF0 ?_))
     repeat (first|refine zR (ja8 @unO.eq_1 @unR.eq_1 @rdR.eq_1 @Zab @noI.eq_1 @Zex.eq_1 @Zex.eq_2 (ja3 @ZbN.eq_1 @ZbN.eq_2 @de)) ?_|exact zU (ja8 @unO.eq_1 @unR.eq_1 @rdR.eq_1 @Zab @noI.eq_1 @Zex.eq_1 @Zex.eq_2 (ja3 @ZbN.eq_1 @ZbN.eq_2 @de)))
     omega
    | ok a j =>
     have hj:=hAi a j rfl
     have ha:=hA2 a j rfl
     rw [Zac] at hj
     simp only [BR.bnd] at hx
     by_cases c3:n<l.length+a
     ·rw [if_pos c3] at hx
      simp only [BT.run] at hx
      subst hx
      have d3:decide ((n:Int)-(l.length:Int)<(a:Int))=true:=decide_eq_true zO
      by_cases e16:sy=16
      ·subst e16
       have hl0:0<l.length:=List.length_pos_iff.2 fun h=>c16 ⟨rfl,h⟩
       have dl:decide ((l.length:Int)=0)=false:=decide_eq_false zO
       obtain ⟨z,hz⟩:∃ z,z=l.length-1:=⟨_,rfl⟩
       have ez:(l.length:Int)-1=(z:Int):=zO
       have hVz:l.getD z 0=V:=by rw [hV,hz];rfl
       obtain rfl:N=3:=hN1
       obtain rfl:Bt=2:=hBt
       repeat (first|refine zR BF2 ?_|exact zU BF2)
       refine Zae [(1001,0)] 2000 hN zB zB ?_ ?_ ?_
       iterate 2 (case _=>(first|exact yU BF3|refine yR BF3 ?_))
       repeat (first|refine zR (ja6 @unR.eq_1 @rdR.eq_1 @dl @ez iR @hVz) ?_|exact zU (ja6 @unR.eq_1 @rdR.eq_1 @dl @ez iR @hVz))
       refine Zae [(1000,0),(1001,0),(1002,0)] 3000 hA zB zB ?_ ?_ ?_
       iterate 2 (case _=>(first|exact yU BF0|refine yR BF0 ?_))
       repeat (first|refine zR (ja8 @unO.eq_1 @unR.eq_1 @rdR.eq_1 @Zab @okI.eq_1 @Zex.eq_1 @Zex.eq_2 (ja3 @ZbN.eq_1 @ZbN.eq_2 @d3)) ?_|exact zU (ja8 @unO.eq_1 @unR.eq_1 @rdR.eq_1 @Zab @okI.eq_1 @Zex.eq_1 @Zex.eq_2 (ja3 @ZbN.eq_1 @ZbN.eq_2 @d3)))
       omega
      have d16:decide ((sy:Int)=16)=false:=decide_eq_false zO
      by_cases e17:sy=17
      ·subst e17
       obtain rfl:V=0:=hV
       obtain rfl:N=3:=hN1
       obtain rfl:Bt=3:=hBt
       repeat (first|refine zR BF2 ?_|exact zU BF2)
       refine Zae [(1001,0)] 2000 hN zB zB ?_ ?_ ?_
       iterate 2 (case _=>(first|exact yU BF3|refine yR BF3 ?_))
       repeat (first|refine zR BF5 ?_|exact zU BF5)
       refine Zae [(1000,0),(1001,0),(1002,0)] 3000 hA zB zB ?_ ?_ ?_
       iterate 2 (case _=>(first|exact yU BF0|refine yR BF0 ?_))
       repeat (first|refine zR (ja8 @unO.eq_1 @unR.eq_1 @rdR.eq_1 @Zab @okI.eq_1 @Zex.eq_1 @Zex.eq_2 (ja3 @ZbN.eq_1 @ZbN.eq_2 @d3)) ?_|exact zU (ja8 @unO.eq_1 @unR.eq_1 @rdR.eq_1 @Zab @okI.eq_1 @Zex.eq_1 @Zex.eq_2 (ja3 @ZbN.eq_1 @ZbN.eq_2 @d3)))
       omega
      have d17:decide ((sy:Int)=17)=false:=decide_eq_false zO
      by_cases e18:sy=18
      ·subst e18
       obtain rfl:V=0:=hV
       obtain rfl:N=11:=hN1
       obtain rfl:Bt=7:=hBt
       repeat (first|refine zR BF2 ?_|exact zU BF2)
       refine Zae [(1001,0)] 2000 hN zB zB ?_ ?_ ?_
       iterate 2 (case _=>(first|exact yU BF3|refine yR BF3 ?_))
       repeat (first|refine zR BF5 ?_|exact zU BF5)
       refine Zae [(1000,0),(1001,0),(1002,0)] 3000 hA zB zB ?_ ?_ ?_
       iterate 2 (case _=>(first|exact yU BF0|refine yR BF0 ?_))
       repeat (first|refine zR (ja8 @unO.eq_1 @unR.eq_1 @rdR.eq_1 @Zab @okI.eq_1 @Zex.eq_1 @Zex.eq_2 (ja3 @ZbN.eq_1 @ZbN.eq_2 @d3)) ?_|exact zU (ja8 @unO.eq_1 @unR.eq_1 @rdR.eq_1 @Zab @okI.eq_1 @Zex.eq_1 @Zex.eq_2 (ja3 @ZbN.eq_1 @ZbN.eq_2 @d3)))
       omega
      have d18:decide ((sy:Int)=18)=false:=decide_eq_false zO
      obtain rfl:V=sy:=by rw [hV,lsV,if_neg e16,if_neg zO]
      obtain rfl:N=1:=by rw [hN1,lsN,if_neg zO,if_neg e18]
      obtain rfl:Bt=0:=by rw [hBt,lsB,if_neg e16,if_neg e17,if_neg e18]
      exfalso
      omega
     ·rw [if_neg c3] at hx
      have d3:decide ((n:Int)-(l.length:Int)<(a:Int))=false:=decide_eq_false zO
      have hRp:=ZaX V a zO zO
      have hX:(l++List.replicate a V).length=l.length+a:=by simp
      have hem:((List.replicate a V).map nA).isEmpty=false:=by
       obtain ⟨a,rfl⟩:∃ k,a=k+1:=⟨a-1,by omega⟩
       rfl
      have hXl:(List.replicate a V).length=a:=List.length_replicate
      have h18:∀ y∈l++List.replicate a V,y≤18:=by
       intro y hy
       rcases List.mem_append.1 hy with hy | hy
       ·exact hl18 y hy
       ·rw [(List.mem_replicate.1 hy).2];exact hV18
      have hn0':nl0 (l.length+a)=false:=ZuM zO
      obtain ⟨X,hXd⟩:∃ X,X=List.replicate a V:=⟨_,rfl⟩
      rw [←hXd] at hRp hx hX hem hXl h18
      by_cases e16:sy=16
      ·subst e16
       have hl0:0<l.length:=List.length_pos_iff.2 fun h=>c16 ⟨rfl,h⟩
       have dl:decide ((l.length:Int)=0)=false:=decide_eq_false zO
       obtain ⟨z,hz⟩:∃ z,z=l.length-1:=⟨_,rfl⟩
       have ez:(l.length:Int)-1=(z:Int):=zO
       have hVz:l.getD z 0=V:=by rw [hV,hz];rfl
       obtain rfl:N=3:=hN1
       obtain rfl:Bt=2:=hBt
       repeat (first|refine zR BF2 ?_|exact zU BF2)
       refine Zae [(1001,0)] 2000 hN zB zB ?_ ?_ ?_
       iterate 2 (case _=>(first|exact yU BF3|refine yR BF3 ?_))
       repeat (first|refine zR (ja6 @unR.eq_1 @rdR.eq_1 @dl @ez iR @hVz) ?_|exact zU (ja6 @unR.eq_1 @rdR.eq_1 @dl @ez iR @hVz))
       refine Zae [(1000,0),(1001,0),(1002,0)] 3000 hA zB zB ?_ ?_ ?_
       iterate 2 (case _=>(first|exact yU BF0|refine yR BF0 ?_))
       repeat (first|refine zR (ja6 @unO.eq_1 @unR.eq_1 @rdR.eq_1 @Zab @okI.eq_1 @d3) ?_|exact zU (ja6 @unO.eq_1 @unR.eq_1 @rdR.eq_1 @Zab @okI.eq_1 @d3))
       refine Zfj 65 (c+100+40) (nl:=false) (cells:=[nA V]) [.sl false none [.sc (.int .i64 (V:Int))],int (a:Int)] _ (yU @nA.eq_1) (yU @nA.eq_1) ?_ yT hRp ?_
       ·(first|exact yU (ja2 fR @nA.eq_1)|refine yR (ja2 fR @nA.eq_1) ?_)
       repeat (first|refine zR (ja4 @hX @hXl @hem @Bool.and_false) ?_|exact zU (ja4 @hX @hXl @hem @Bool.and_false))
       refine At.of (f,l++X,j,c+100+40+1,c+100+40+2) ⟨hx,hj,by simp only;omega,by simp only;omega,h18,by simp only;omega⟩ (by simp only;omega) rfl rfl ?_ ?_ ?_
       ·simp only;omega
       iterate 2 (case _=>(first|exact yU (ja6 @Zhq.eq_1 @hX @hXl @unR.eq_1 @rdR.eq_1 @hn0')|refine yR (ja6 @Zhq.eq_1 @hX @hXl @unR.eq_1 @rdR.eq_1 @hn0') ?_))
      have d16:decide ((sy:Int)=16)=false:=decide_eq_false zO
      by_cases e17:sy=17
      ·subst e17
       obtain rfl:V=0:=hV
       obtain rfl:N=3:=hN1
       obtain rfl:Bt=3:=hBt
       repeat (first|refine zR BF2 ?_|exact zU BF2)
       refine Zae [(1001,0)] 2000 hN zB zB ?_ ?_ ?_
       iterate 2 (case _=>(first|exact yU BF3|refine yR BF3 ?_))
       repeat (first|refine zR BF5 ?_|exact zU BF5)
       refine Zae [(1000,0),(1001,0),(1002,0)] 3000 hA zB zB ?_ ?_ ?_
       iterate 2 (case _=>(first|exact yU BF0|refine yR BF0 ?_))
       repeat (first|refine zR (ja6 @unO.eq_1 @unR.eq_1 @rdR.eq_1 @Zab @okI.eq_1 @d3) ?_|exact zU (ja6 @unO.eq_1 @unR.eq_1 @rdR.eq_1 @Zab @okI.eq_1 @d3))
       refine Zfj 65 (c+100+40) (nl:=false) (cells:=[.sc (.int .i64 0)]) [.sl false none [.sc (.int .i64 ((0:Nat):Int))],int (a:Int)] _ (yU @nA.eq_1) (yU @nA.eq_1) ?_ yT hRp ?_
       ·(first|exact yU (ja2 fR @nA.eq_1)|refine yR (ja2 fR @nA.eq_1) ?_)
       repeat (first|refine zR (ja4 @hX @hXl @hem @Bool.and_false) ?_|exact zU (ja4 @hX @hXl @hem @Bool.and_false))
       refine At.of (f,l++X,j,c+100+40+1,c+100+40+2) ⟨hx,hj,by simp only;omega,by simp only;omega,h18,by simp only;omega⟩ (by simp only;omega) rfl rfl ?_ ?_ ?_
       ·simp only;omega
       iterate 2 (case _=>(first|exact yU (ja6 @Zhq.eq_1 @hX @hXl @unR.eq_1 @rdR.eq_1 @hn0')|refine yR (ja6 @Zhq.eq_1 @hX @hXl @unR.eq_1 @rdR.eq_1 @hn0') ?_))
      have d17:decide ((sy:Int)=17)=false:=decide_eq_false zO
      by_cases e18:sy=18
      ·subst e18
       obtain rfl:V=0:=hV
       obtain rfl:N=11:=hN1
       obtain rfl:Bt=7:=hBt
       repeat (first|refine zR BF2 ?_|exact zU BF2)
       refine Zae [(1001,0)] 2000 hN zB zB ?_ ?_ ?_
       iterate 2 (case _=>(first|exact yU BF3|refine yR BF3 ?_))
       repeat (first|refine zR BF5 ?_|exact zU BF5)
       refine Zae [(1000,0),(1001,0),(1002,0)] 3000 hA zB zB ?_ ?_ ?_
       iterate 2 (case _=>(first|exact yU BF0|refine yR BF0 ?_))
       repeat (first|refine zR (ja6 @unO.eq_1 @unR.eq_1 @rdR.eq_1 @Zab @okI.eq_1 @d3) ?_|exact zU (ja6 @unO.eq_1 @unR.eq_1 @rdR.eq_1 @Zab @okI.eq_1 @d3))
       refine Zfj 65 (c+100+40) (nl:=false) (cells:=[.sc (.int .i64 0)]) [.sl false none [.sc (.int .i64 ((0:Nat):Int))],int (a:Int)] _ (yU @nA.eq_1) (yU @nA.eq_1) ?_ yT hRp ?_
       ·(first|exact yU (ja2 fR @nA.eq_1)|refine yR (ja2 fR @nA.eq_1) ?_)
       repeat (first|refine zR (ja4 @hX @hXl @hem @Bool.and_false) ?_|exact zU (ja4 @hX @hXl @hem @Bool.and_false))
       refine At.of (f,l++X,j,c+100+40+1,c+100+40+2) ⟨hx,hj,by simp only;omega,by simp only;omega,h18,by simp only;omega⟩ (by simp only;omega) rfl rfl ?_ ?_ ?_
       ·simp only;omega
       iterate 2 (case _=>(first|exact yU (ja6 @Zhq.eq_1 @hX @hXl @unR.eq_1 @rdR.eq_1 @hn0')|refine yR (ja6 @Zhq.eq_1 @hX @hXl @unR.eq_1 @rdR.eq_1 @hn0') ?_))
      have d18:decide ((sy:Int)=18)=false:=decide_eq_false zO
      obtain rfl:V=sy:=by rw [hV,lsV,if_neg e16,if_neg zO]
      obtain rfl:N=1:=by rw [hN1,lsN,if_neg zO,if_neg e18]
      obtain rfl:Bt=0:=by rw [hBt,lsB,if_neg e16,if_neg e17,if_neg e18]
      repeat (first|refine zR BF2 ?_|exact zU BF2)
      refine Zae [(1001,0)] 2000 hN zB zB ?_ ?_ ?_
      iterate 2 (case _=>(first|exact yU BF3|refine yR BF3 ?_))
      repeat (first|refine zR (ja5 @unR.eq_1 @rdR.eq_1 @d16 @d17 @d18) ?_|exact zU (ja5 @unR.eq_1 @rdR.eq_1 @d16 @d17 @d18))
      refine Zae [(1000,0),(1001,0),(1002,0)] 3000 hA zB zB ?_ ?_ ?_
      iterate 2 (case _=>(first|exact yU BF0|refine yR BF0 ?_))
      repeat (first|refine zR (ja6 @unO.eq_1 @unR.eq_1 @rdR.eq_1 @Zab @okI.eq_1 @d3) ?_|exact zU (ja6 @unO.eq_1 @unR.eq_1 @rdR.eq_1 @Zab @okI.eq_1 @d3))
      refine Zfj 65 (c+100+40) (nl:=false) (cells:=[nA V]) [.sl false none [.sc (.int .i64 (V:Int))],int (a:Int)] _ (yU @nA.eq_1) (yU @nA.eq_1) ?_ yT hRp ?_
      ·(first|exact yU (ja2 fR @nA.eq_1)|refine yR (ja2 fR @nA.eq_1) ?_)
      repeat (first|refine zR (ja4 @hX @hXl @hem @Bool.and_false) ?_|exact zU (ja4 @hX @hXl @hem @Bool.and_false))
      refine At.of (f,l++X,j,c+100+40+1,c+100+40+2) ⟨hx,hj,by simp only;omega,by simp only;omega,h18,by simp only;omega⟩ (by simp only;omega) rfl rfl ?_ ?_ ?_
      ·simp only;omega
      iterate 2 (case _=>(first|exact yU (ja6 @Zhq.eq_1 @hX @hXl @unR.eq_1 @rdR.eq_1 @hn0')|refine yR (ja6 @Zhq.eq_1 @hX @hXl @unR.eq_1 @rdR.eq_1 @hn0') ?_))
  ·simp only [Zys,if_neg c2,BR.bnd] at hx
   have de:decide ((e:Int)=0)=false:=decide_eq_false zO
   subst hx
   repeat (first|refine zR BF2 ?_|exact zU BF2)
   refine Zae [(1001,0)] 2000 hN zB zB ?_ ?_ ?_
   iterate 2 (case _=>(first|exact yU BF3|refine yR BF3 ?_))
   repeat (first|refine zR (ja5 @Zex.eq_1 @Zex.eq_2 @ZbN.eq_1 @ZbN.eq_2 @de) ?_|exact zU (ja5 @Zex.eq_1 @Zex.eq_2 @ZbN.eq_1 @ZbN.eq_2 @de))
   omega
 ·simp only [decide_eq_false_iff_not] at h
  have hle:n≤l.length:=zO
  rw [if_pos hle] at hx
  simp only [BT.run] at hx
  subst hx
  have hn1:nl0 l.length=false:=Zca zO
  have htk:l.take l.length=l:=List.take_length
  refine SWp.frzo 8 g (nl:=false) (cells:=l.map nA) (yU @hn1) Zaa ?_
  refine SWp.le (Zaj (N:=70) (gc:=c) (l:=[(8,.sl false none (l.map nA))]) (h:=[(1000,0,.row false (unR t most 0 out.length)),(1001,0,.row false (rdR nl b p)),(1002,0,.row (nl0 out.length) (out.map u8))]) rfl ?_ ?_ ?_) ?_
  ·exact Nat.le_refl _
  iterate 2 (case _=>(first|exact yU (ja7 fR iR @htk @unR.eq_1 @rdR.eq_1 @Zz6 @false_and)|refine yR (ja7 fR iR @htk @unR.eq_1 @rdR.eq_1 @Zz6 @false_and) ?_))
  repeat (first|refine zR BF16 ?_|exact zU BF16)
  omega
theorem ZD5 {b:List UInt8} {th:List Nat} {n:Nat} (hth:th.length=19):∀ (f:Nat) (l:List Nat) (i:Nat) (ls:List Nat) (j:Nat),l.length≤n→(∀ y∈l,y≤15)→i≤8*b.length→(lsT th n f l).run (Zah b) i = .ok ls j→ls.length=n∧∀ y∈ls,y≤15:=by
 intro f
 induction f with
 | zero=>intro l i ls j _ _ _ h;simp [lsT,BT.run] at h
 | succ f ih =>
  intro l i ls j hl h15 hi h
  rw [lsT] at h
  by_cases c:n≤l.length
  ·rw [if_pos c] at h
   simp only [BT.run,BR.ok.injEq] at h
   obtain ⟨rfl,rfl⟩:=h
   exact ⟨by omega,h15⟩
  ·rw [if_neg c,Zal] at h
   have hrn:=ZmY (l:=th) (B:=Zah b) (i:=i)
   have hsy:=Zjw (l:=th) (B:=(Zah b).drop i) 15 0 0
   cases h1:(Zx0 th 15 0 0).run (Zah b) i with
   | no e=>rw [h1] at h;cases h
   | ok s k =>
    rw [h1] at h
    have hk:=(Zh1 h1).2 (by rw [Zac];exact hi)
    rw [Zac] at hk
    rw [h1,Zys] at hrn
    split at hrn
    ·rename_i e0
     simp only [BR.ok.injEq] at hrn
     have hs:=(hsy e0).1
     rw [←hrn.1,hth] at hs
     simp only [BR.bnd] at h
     by_cases c2:s=16∧l=[]
     ·rw [if_pos c2] at h;simp [BT.run] at h
     ·rw [if_neg c2,Zal] at h
      cases h2:(Zfd (lsN s) (lsB s)).run (Zah b) k with
      | no e=>rw [h2] at h;cases h
      | ok t k2 =>
       rw [h2] at h
       have hk2:=(Zh1 h2).2 (by rw [Zac];exact hk)
       rw [Zac] at hk2
       simp only [BR.bnd] at h
       by_cases c3:n<l.length+t
       ·rw [if_pos c3] at h;simp [BT.run] at h
       ·rw [if_neg c3] at h
        refine ih _ _ _ _ (by rw [List.length_append,List.length_replicate];omega) ?_ hk2 h
        intro y hy
        rcases List.mem_append.1 hy with hy | hy
        ·exact h15 y hy
        ·rw [(List.mem_replicate.1 hy).2]
         unfold lsV
         split
         ·rename_i e16
          have hne:l≠[]:=fun h=>c2 ⟨e16,h⟩
          have h0:l.length-1<l.length:=by have:=List.length_pos_iff.2 hne;omega
          have:l.getD (l.length-1) 0=l[l.length-1]:=by simp [List.getD,List.getElem?_eq_getElem h0]
          rw [this];exact h15 _ (List.getElem_mem h0)
         ·split
          ·omega
          ·omega
    ·cases hrn
theorem ZAe {b:List UInt8} {n i j:Nat} {th:List Nat} (hi:i≤8*b.length) (h:(ZvC n).run (Zah b) i = .ok th j):th.length=19∧fulN th=true:=by
 rw [ZvC,Zal] at h
 cases h1:(ZpN n 0 (List.replicate 19 0)).run (Zah b) i with
 | no e=>rw [h1] at h;cases h
 | ok t k =>
  rw [h1] at h
  simp only [BR.bnd] at h
  have h2:=ZAd n 0 i k _ t zB zB hi h1
  by_cases c:fulN t=true
  ·rw [if_pos c] at h
   simp only [BT.run,BR.ok.injEq] at h
   rw [←h.1]
   exact ⟨h2.1,c⟩
  ·rw [if_neg c] at h;simp [BT.run] at h
theorem ZAf {l d:List Nat} (h:ZuJ l d=true):l.length≤320∧Zav l≤32768∧Zav d≤32768:=by
 simp only [ZuJ,Bool.and_eq_true] at h
 have h2:=h.1.2
 simp only [fulN,decide_eq_true_eq] at h2
 exact ⟨h2.1,by omega,Zqq h.2⟩
theorem ZFK {b:List UInt8} {i j:Nat} {p:List Nat × List Nat} (hi:i≤8*b.length) (h:ZsN.run (Zah b) i = .ok p j):p.1.length≤320∧Zav p.1≤32768∧p.2.length≤320∧Zav p.2≤32768:=by
 rw [ZsN,Zal,ZeX hi] at h
 split at h
 ·rename_i c1
  simp only [BR.bnd] at h
  split at h
  ·simp [BT.run] at h
  ·rename_i c2
   rw [Zal] at h
   cases h1:(ZvC (ZaY b i 14 / 1024+4)).run (Zah b) (i+14) with
   | no e=>rw [h1] at h;cases h
   | ok th k =>
    rw [h1] at h
    have hk:=(Zh1 h1).2 (by rw [Zac];exact c1)
    rw [Zac] at hk
    simp only [BR.bnd] at h
    rw [Zal] at h
    cases h2:(lsT th (ZaY b i 14 % 32+257+(ZaY b i 14 / 32 % 32+1)) 400 []).run (Zah b) k with
    | no e=>rw [h2] at h;cases h
    | ok ls k2 =>
     rw [h2] at h
     have hls:=ZD5 (ZAe c1 h1).1 400 [] k ls k2 (Nat.zero_le _) zB hk h2
     simp only [BR.bnd] at h
     split at h
     ·rename_i c3
      simp only [BT.run,BR.ok.injEq] at h
      obtain ⟨rfl,-⟩:=h
      have:=ZAf c3
      refine ⟨this.1,this.2.1,?_,this.2.2⟩
      rw [List.length_drop];omega
     ·simp [BT.run] at h
 ·cases h
def BF6:=ja2 @unI.eq_1 @unR.eq_1
def BF7:=ja8 @unR.eq_1 @rdR.eq_1 @Zex.eq_1 @Zex.eq_2 @Zes.eq_1 @Zes.eq_2 @ZbN.eq_1 (ja4 @ZbN.eq_2 @unO.eq_1 @Zab iR)
def BF17:=ja8 @unR.eq_1 @rdR.eq_1 @Zes.eq_1 @Zes.eq_2 @ZbN.eq_1 @ZbN.eq_2 @unO.eq_1 (ja2 @Zab @Zn7)
def BF18:=ja5 @unI.eq_1 @unR.eq_1 @rdR.eq_1 @Zab @Zn7
set_option maxHeartbeats 1000000 in
theorem ZoX [Tabs Tryz.prog] (ht:Tabs.tab Tryz.prog 1=some (Ziv.map nA)) (t:Bool) (most:Nat) (nl:Bool) (b:List UInt8) (hb:b.length≤1000000) (i:Nat) (hi:i≤8*b.length) (out:List UInt8) (r:BR (List Nat × List Nat)) (hr:ZsN.run (Zah b) i=r) :
  HCon Tryz.prog ZcG [.op 1000 0 0] (unI t most nl b i out) (Zes (fun p=>cds p.1 p.2) r) (ZbN t most nl b out r) 600000:=by
 refine HCon.of' mix Tryz.func47 rfl Tryz.ntmps47 ZfO ZfP zB (by simp [AV.gl,AV.gl.glL,int]) Zfe ?_
 unfold ZcH
 rw [ZsN,Zal,ZeX hi] at hr
 by_cases c1:i+14≤8*b.length
 ·rw [if_pos c1] at hr
  simp only [BR.bnd] at hr
  have hT:=ZeV nl b hb i hi 14 zO c1
  have hcl:=Ze1 (b:=b) (i:=i) (n:=14)
  obtain ⟨c,hc⟩:∃ c,c=ZaY b i 14:=⟨_,rfl⟩
  rw [←hc] at hT hr hcl
  obtain ⟨L,hL⟩:∃ L,L=c % 32+257:=⟨_,rfl⟩
  obtain ⟨D,hD⟩:∃ D,D=c / 32 % 32+1:=⟨_,rfl⟩
  obtain ⟨N,hN⟩:∃ N,N=c / 1024+4:=⟨_,rfl⟩
  rw [←hL,←hD,←hN] at hr
  have eL:((c % 32:Nat):Int)+257=(L:Int):=zO
  have eD:((c / 32 % 32:Nat):Int)+1=(D:Int):=zO
  have eN:((c / 1024:Nat):Int)+4=(N:Int):=zO
  repeat (first|refine zR BF6 ?_|exact zU BF6)
  refine Zae [(1001,0)] 2000 hT zB zB ?_ ?_ ?_
  iterate 2 (case _=>(first|exact yU @rdR.eq_1|refine yR @rdR.eq_1 ?_))
  by_cases c2:286<L∨30<D
  ·rw [if_pos c2] at hr
   simp only [BT.run] at hr
   subst hr
   by_cases c3:286<L
   ·have d3:decide ((286:Int)<(L:Int))=true:=decide_eq_true zO
    repeat (first|refine zR (ja8 @unR.eq_1 @rdR.eq_1 @eL @eD @d3 @Zes.eq_1 @Zes.eq_2 (ja2 @ZbN.eq_1 @ZbN.eq_2)) ?_|exact zU (ja8 @unR.eq_1 @rdR.eq_1 @eL @eD @d3 @Zes.eq_1 @Zes.eq_2 (ja2 @ZbN.eq_1 @ZbN.eq_2)))
   ·have d3:decide ((286:Int)<(L:Int))=false:=decide_eq_false zO
    have d4:decide ((30:Int)<(D:Int))=true:=decide_eq_true zO
    repeat (first|refine zR (ja8 @unR.eq_1 @rdR.eq_1 @eL @eD @d3 @d4 @Zes.eq_1 (ja3 @Zes.eq_2 @ZbN.eq_1 @ZbN.eq_2)) ?_|exact zU (ja8 @unR.eq_1 @rdR.eq_1 @eL @eD @d3 @d4 @Zes.eq_1 (ja3 @Zes.eq_2 @ZbN.eq_1 @ZbN.eq_2)))
  ·rw [if_neg c2,Zal] at hr
   have d3:decide ((286:Int)<(L:Int))=false:=decide_eq_false zO
   have d4:decide ((30:Int)<(D:Int))=false:=decide_eq_false zO
   repeat (first|refine zR (ja7 @unR.eq_1 @rdR.eq_1 @eL @eD @eN @d3 @d4) ?_|exact zU (ja7 @unR.eq_1 @rdR.eq_1 @eL @eD @eN @d3 @d4))
   have hTe:=ZsW ht t most nl b hb (i+14) c1 out N zO _ rfl
   have hTi:=fun a j (h:(ZvC N).run (Zah b) (i+14) = .ok a j)=>And.intro ((Zh1 h).2 (by rw [Zac];exact c1)) (ZAe c1 h)
   have hTs:=fun e (h:(ZvC N).run (Zah b) (i+14) = .no e)=>ZfS ZvE h
   obtain ⟨r1,hr1⟩:∃ r1,r1=(ZvC N).run (Zah b) (i+14):=⟨_,rfl⟩
   rw [←hr1] at hTe hTi hTs hr
   refine Zae [(1000,0),(1001,0),(1002,0)] 3000 hTe zB zB ?_ ?_ ?_
   iterate 2 (case _=>(first|exact yU BF0|refine yR BF0 ?_))
   cases r1 with
   | no e =>
    simp only [BR.bnd] at hr
    subst hr
    have he:=hTs e rfl
    have de:decide ((e:Int)=0)=false:=decide_eq_false zO
    repeat (first|refine zR (ja7 @unR.eq_1 @rdR.eq_1 @Zes.eq_1 @Zes.eq_2 @ZbN.eq_1 @ZbN.eq_2 @de) ?_|exact zU (ja7 @unR.eq_1 @rdR.eq_1 @Zes.eq_1 @Zes.eq_2 @ZbN.eq_1 @ZbN.eq_2 @de))
   | ok th j =>
    obtain ⟨hj,hth,hfu⟩:=hTi th j rfl
    rw [Zac] at hj
    simp only [BR.bnd] at hr
    rw [Zal] at hr
    have hK:Zav th≤32768:=by simp only [fulN,decide_eq_true_eq] at hfu;omega
    have hLs:=Zru t most nl b hb j hj out th hth hK (L+D) zO zO _ rfl
    have hLi:=fun a q (h:(lsT th (L+D) 400 []).run (Zah b) j = .ok a q)=>ZD5 hth 400 [] j a q (Nat.zero_le _) zB hj h
    have hLe:=fun e (h:(lsT th (L+D) 400 []).run (Zah b) j = .no e)=>ZfS (Zz5 _ _) h
    obtain ⟨r2,hr2⟩:∃ r2,r2=(lsT th (L+D) 400 []).run (Zah b) j:=⟨_,rfl⟩
    rw [←hr2] at hLs hLi hLe hr
    repeat (first|refine zR BF17 ?_|exact zU BF17)
    refine Zae [(1000,0),(1001,0),(1002,0)] 4000 hLs zB zB ?_ ?_ ?_
    iterate 2 (case _=>(first|exact yU BF18|refine yR BF18 ?_))
    cases r2 with
    | no e =>
     simp only [BR.bnd] at hr
     subst hr
     have he:=hLe e rfl
     have de:decide ((e:Int)=0)=false:=decide_eq_false zO
     repeat (first|refine zR (ja8 @unR.eq_1 @rdR.eq_1 @Zex.eq_1 @Zex.eq_2 @Zes.eq_1 @Zes.eq_2 @ZbN.eq_1 (ja2 @ZbN.eq_2 @de)) ?_|exact zU (ja8 @unR.eq_1 @rdR.eq_1 @Zex.eq_1 @Zex.eq_2 @Zes.eq_1 @Zes.eq_2 @ZbN.eq_1 (ja2 @ZbN.eq_2 @de)))
    | ok ls q =>
     obtain ⟨hll,h15⟩:=hLi ls q rfl
     simp only [BR.bnd] at hr
     have hCo:=Zrt false false (ls.take L) (ls.drop L) (fun x hx=>h15 x (List.mem_of_mem_take hx)) (fun x hx=>h15 x (List.mem_of_mem_drop hx)) (by rw [List.length_take];omega) (by rw [List.length_take];omega) (by rw [List.length_drop];omega)
     have hLL:(L:Int)≤((ls.length:Nat):Int):=zO
     repeat (first|refine zR BF7 ?_|exact zU BF7)
     by_cases c5:ZuJ (ls.take L) (ls.drop L)=true
     ·rw [if_pos c5] at hr hCo
      simp only [BT.run] at hr
      subst hr
      refine Zaz _ (.inl ⟨by simp only [AV.free,AV.free.freeL,Zaa,Bool.and_self],hCo⟩) ?_
      repeat (first|refine zR BF7 ?_|exact zU BF7)
      all_goals trace_state
     ·rw [if_neg c5] at hr hCo
      simp only [BT.run] at hr
      subst hr
      refine Zaz _ (.inl ⟨by simp only [AV.free,AV.free.freeL,Zaa,Bool.and_self],hCo⟩) ?_
      repeat (first|refine zR BF7 ?_|exact zU BF7)
 ·rw [if_neg c1] at hr
  simp only [BR.bnd] at hr
  subst hr
  have hT:=Zd2 nl b hb i hi 14 (decide_eq_false zO)
  repeat (first|refine zR BF6 ?_|exact zU BF6)
  refine Zae [(1001,0)] 2000 hT zB zB ?_ ?_ ?_
  iterate 2 (case _=>(first|exact yU @rdR.eq_1|refine yR @rdR.eq_1 ?_))
  repeat (first|refine zR BF11 ?_|exact zU BF11)
theorem ZjP {ρ:Nat→Nat→Nat × Nat} {l d:List Nat}:ren ρ (.fp (.agg [.fp (.agg (trR l)) 0,.fp (.agg (trR d)) 0]) 0) = .fp (.agg [.fp (.agg (trR l)) 0,.fp (.agg (trR d)) 0]) 0:=Zcu
theorem Za3:fxA true=cds ZpO Zqp:=rfl
theorem Zl6:fxA false = .sc (.pointer none):=rfl
theorem ZsX {l d:List Nat}:Zas (cds l d)=some [cds l d]:=rfl
def ZGu (b:List UInt8) (i:Nat):Bool:=decide (i+3≤8*b.length)&&decide (ZaY b i 3 % 2=1)
def Zff (b:List UInt8) (i:Nat):BR (Bool × List UInt8)→AV
 | .ok p _=>.tup [boo p.1,int 0]
 | .no e=>.tup [boo (ZGu b i),int (e:Int)]
def fxN (t:Bool) (b:List UInt8) (i:Nat):Bool:=t || decide (ZaY b i 3 / 2=1)
def Zfg (K:Nat) (t:Bool) (most:Nat) (nl:Bool) (b:List UInt8) (i:Nat):BR (Bool × List UInt8)→List (Nat × Nat × AO)
 | .ok p j=>unO K (fxN t b i) most nl b j p.2
 | .no _=>[]
def KB (F:Nat):Nat:=1000*F+700000
def BF8:=ja8 @ZcJ.eq_1 @ZcJ.eq_2 @ZcK.eq_1 @ZcK.eq_2 @unO.eq_1 @unR.eq_1 @rdR.eq_1 (ja2 @Zab @Zcu)
def BF9:=ja3 @unR.eq_1 @rdR.eq_1 @Za3
def BF10:=ja7 @Zba @Zbb @unR.eq_1 @rdR.eq_1 @Zab @Zcu @Za3
def BF19:=ja6 @unI.eq_1 @unR.eq_1 @rdR.eq_1 @ZjP @Za3 @cds.eq_1
def BF20:=ja8 @ZcJ.eq_1 @ZcJ.eq_2 @ZcK.eq_1 @ZcK.eq_2 @unO.eq_1 @unR.eq_1 @rdR.eq_1 (ja3 @Za3 @cds.eq_1 @ZjP)
def BF21:=ja4 @unR.eq_1 @rdR.eq_1 @Za3 @cds.eq_1
def BF22:=ja7 @Zba @Zbb @unR.eq_1 @rdR.eq_1 @Za3 @cds.eq_1 @ZjP
def BF23:=ja5 @unI.eq_1 @unR.eq_1 @rdR.eq_1 @Zcu @Za3
def BF24:=ja8 @Zes.eq_1 @Zes.eq_2 @ZbN.eq_1 @ZbN.eq_2 @unO.eq_1 @unR.eq_1 @rdR.eq_1 (ja2 @Zab @Zcu)
def BF25:=ja5 @unI.eq_1 @unR.eq_1 @rdR.eq_1 @Zab @Zcu
set_option maxHeartbeats 2000000 in
theorem ZuN [Tabs Tryz.prog] (ht:Tabs.tab Tryz.prog 1=some (Ziv.map nA)) (t:Bool) (most:Nat) (hm:most≤16777216) (nl:Bool) (b:List UInt8) (hb:b.length≤1000000) (hnl:nl=true→b=[]) (i:Nat) (hi:i≤8*b.length) (out:List UInt8) (ho:out.length≤most) (F:Nat) (hF:8*b.length<F) (r:BR (Bool × List UInt8)) (hr:(ZsO most F out).run (Zah b) i=r) :
  HCon Tryz.prog ZdW [.op 1000 0 0] (unI t most nl b i out) (Zff b i r) (Zfg (KB F) t most nl b i r) (KB F+1):=by
 refine HCon.of' mix Tryz.func20 rfl Tryz.ntmps20 ZhH ZhI zB (by simp [AV.gl,AV.gl.glL,int]) Zfe ?_
 unfold ZdX
 rw [ZsO,Zal,ZeX hi] at hr
 by_cases c1:i+3≤8*b.length
 ·rw [if_pos c1] at hr
  simp only [BR.bnd] at hr
  rw [Zal] at hr
  have hT:=ZeV nl b hb i hi 3 zO c1
  have h7:=ZAc (b:=b) (i:=i)
  have hbit:ZGu b i=decide (ZaY b i 3 % 2=1):=by rw [ZGu,decide_eq_true c1,Bool.true_and]
  have hfx:fxN t b i=(t || decide (ZaY b i 3 / 2=1)):=rfl
  obtain ⟨h,hh⟩:∃ h,h=ZaY b i 3:=⟨_,rfl⟩
  rw [←hh] at hT hr h7 hbit hfx
  have hlast:decide (((h % 2:Nat):Int)=1)=decide (h % 2=1):=decide_eq_decide.2 zO
  have hl2:decide ((h:Int)=1)=decide (h=1):=decide_eq_decide.2 zO
  repeat (first|refine zR BF6 ?_|exact zU BF6)
  refine Zae [(1001,0)] 2000 hT zB zB ?_ ?_ ?_
  iterate 2 (case _=>(first|exact yU @rdR.eq_1|refine yR @rdR.eq_1 ?_))
  have hse:=fun e (q:(ZrO most F out (h / 2)).run (Zah b) (i+3) = .no e)=>ZfS Zrm q
  obtain ⟨r1,hr1⟩:∃ r1,(ZrO most F out (h / 2)).run (Zah b) (i+3)=r1:=⟨_,rfl⟩
  rw [hr1] at hr hse
  rw [ZrO] at hr1
  obtain ⟨p,hp⟩:∃ p,p=h / 2:=⟨_,rfl⟩
  rw [←hp] at hr1 hfx
  by_cases k0:p=0
  ·rw [if_pos k0] at hr1
   subst k0
   have hfx:fxN t b i=t:=by rw [hfx];simp
   have hS:=ZsQ t most hm nl b hb hnl (i+3) c1 out ho r1 hr1
   repeat (first|refine zR (ja4 @unR.eq_1 @rdR.eq_1 hp.symm @Nat.pow_one) ?_|exact zU (ja4 @unR.eq_1 @rdR.eq_1 hp.symm @Nat.pow_one))
   refine Zae [(1000,0),(1001,0),(1002,0)] 3000 hS zB zB ?_ ?_ ?_
   iterate 2 (case _=>(first|exact yU BF0|refine yR BF0 ?_))
   cases r1 with
   | no e =>
    simp only [BR.bnd] at hr
    subst hr
    repeat (first|refine zR (ja8 @ZcJ.eq_1 @ZcJ.eq_2 @ZcK.eq_1 @ZcK.eq_2 @Zff.eq_1 @Zff.eq_2 @Zfg.eq_1 (ja4 @Zfg.eq_2 @hlast @hl2 @hbit)) ?_|exact zU (ja8 @ZcJ.eq_1 @ZcJ.eq_2 @ZcK.eq_1 @ZcK.eq_2 @Zff.eq_1 @Zff.eq_2 @Zfg.eq_1 (ja4 @Zfg.eq_2 @hlast @hl2 @hbit)))
    simp only [KB];omega
   | ok o j =>
    simp only [BR.bnd,BT.run] at hr
    subst hr
    iterate 1 (first|refine zR BF8 ?_|exact zU BF8)
    refine SWp.le (Zaj (N:=56) (gc:=KB F) (l:=[(3,int 0),(4,int (h:Int))]) (h:=[(1000,0,.row false (unR t most 104 o.length)),(1001,0,.row false (rdR nl b j)),(1002,104,.row (nl0 o.length) (o.map u8))]) rfl ?_ ?_ ?_) ?_
    ·simp only [KB];omega
    iterate 2 (case _=>(first|exact yU BF9|refine yR BF9 ?_))
    refine SWp.renew 1002 104 (o:=.row (nl0 o.length) (o.map u8)) yT ?_
    refine SWp.le (Zaj (N:=56) (gc:=KB F+1) (l:=[(3,int 0),(4,int (h:Int))]) (h:=[(1000,0,.row false (unR t most (KB F) o.length)),(1001,0,.row false (rdR nl b j)),(1002,KB F,.row (nl0 o.length) (o.map u8))]) rfl ?_ ?_ ?_) ?_
    ·exact Nat.le_refl _
    iterate 2 (case _=>(first|exact yU BF10|refine yR BF10 ?_))
    repeat (first|refine zR (ja8 @Zff.eq_1 @Zff.eq_2 @Zfg.eq_1 @Zfg.eq_2 @unO.eq_1 @unR.eq_1 @rdR.eq_1 (ja3 @hfx @hlast @hl2)) ?_|exact zU (ja8 @Zff.eq_1 @Zff.eq_2 @Zfg.eq_1 @Zfg.eq_2 @unO.eq_1 @unR.eq_1 @rdR.eq_1 (ja3 @hfx @hlast @hl2)))
  ·rw [if_neg k0] at hr1
   have d0:decide ((p:Int)=0)=false:=decide_eq_false zO
   by_cases k1:p=1
   ·rw [if_pos k1] at hr1
    subst k1
    have hfx:fxN t b i=true:=by rw [hfx];simp
    have hS:=Zl5 true most hm nl b hb (i+3) c1 out ho ZpO Zqp (by rw [ZbR.2.1];omega) (by rw [ZbR.2.2];omega) (by rw [Zb5.2.1];omega) (by rw [Zb5.2.2];omega) F zO r1 hr1
    cases t with
    | true =>
     repeat (first|refine zR (ja6 @unR.eq_1 @rdR.eq_1 hp.symm @Nat.pow_one @Za3 @cds.eq_1) ?_|exact zU (ja6 @unR.eq_1 @rdR.eq_1 hp.symm @Nat.pow_one @Za3 @cds.eq_1))
     refine Zae [(1000,0),(1001,0),(1002,0)] 3000 hS zB zB ?_ ?_ ?_
     iterate 2 (case _=>(first|exact yU BF19|refine yR BF19 ?_))
     cases r1 with
     | no e =>
      simp only [BR.bnd] at hr
      subst hr
      repeat (first|refine zR (ja8 @ZcJ.eq_1 @ZcJ.eq_2 @ZcK.eq_1 @ZcK.eq_2 @Zff.eq_1 @Zff.eq_2 @Zfg.eq_1 (ja4 @Zfg.eq_2 @hlast @hl2 @hbit)) ?_|exact zU (ja8 @ZcJ.eq_1 @ZcJ.eq_2 @ZcK.eq_1 @ZcK.eq_2 @Zff.eq_1 @Zff.eq_2 @Zfg.eq_1 (ja4 @Zfg.eq_2 @hlast @hl2 @hbit)))
      simp only [KB];omega
     | ok o j =>
      simp only [BR.bnd,BT.run] at hr
      subst hr
      iterate 1 (first|refine zR BF20 ?_|exact zU BF20)
      refine SWp.le (Zaj (N:=56) (gc:=KB F) (l:=[(3,int 0),(4,int (h:Int))]) (h:=[(1000,0,.row false (unR true most ((31+(1000*F+1))) o.length)),(1001,0,.row false (rdR nl b j)),(1002,(31+(1000*F+1)),.row (nl0 o.length) (o.map u8))]) rfl ?_ ?_ ?_) ?_
      ·simp only [KB];omega
      iterate 2 (case _=>(first|exact yU BF21|refine yR BF21 ?_))
      refine SWp.renew 1002 ((31+(1000*F+1))) (o:=.row (nl0 o.length) (o.map u8)) yT ?_
      refine SWp.le (Zaj (N:=56) (gc:=KB F+1) (l:=[(3,int 0),(4,int (h:Int))]) (h:=[(1000,0,.row false (unR true most (KB F) o.length)),(1001,0,.row false (rdR nl b j)),(1002,KB F,.row (nl0 o.length) (o.map u8))]) rfl ?_ ?_ ?_) ?_
      ·exact Nat.le_refl _
      iterate 2 (case _=>(first|exact yU BF22|refine yR BF22 ?_))
      repeat (first|refine zR (ja8 @Zff.eq_1 @Zff.eq_2 @Zfg.eq_1 @Zfg.eq_2 @unO.eq_1 @unR.eq_1 @rdR.eq_1 (ja5 @Za3 @cds.eq_1 @hfx @hlast @hl2)) ?_|exact zU (ja8 @Zff.eq_1 @Zff.eq_2 @Zfg.eq_1 @Zfg.eq_2 @unO.eq_1 @unR.eq_1 @rdR.eq_1 (ja5 @Za3 @cds.eq_1 @hfx @hlast @hl2)))
    | false =>
     repeat (first|refine zR (ja5 @unR.eq_1 @rdR.eq_1 hp.symm @Nat.pow_one @Zl6) ?_|exact zU (ja5 @unR.eq_1 @rdR.eq_1 hp.symm @Nat.pow_one @Zl6))
     refine Zaz _ (.inl ⟨rfl,ZnV⟩) ?_
     repeat (first|refine zR (ja3 @unR.eq_1 @rdR.eq_1 @ZsX) ?_|exact zU (ja3 @unR.eq_1 @rdR.eq_1 @ZsX))
     refine Zae [(1000,0),(1001,0),(1002,0)] 3000 hS zB zB ?_ ?_ ?_
     iterate 2 (case _=>(first|exact yU BF23|refine yR BF23 ?_))
     cases r1 with
     | no e =>
      simp only [BR.bnd] at hr
      subst hr
      repeat (first|refine zR (ja8 @ZcJ.eq_1 @ZcJ.eq_2 @ZcK.eq_1 @ZcK.eq_2 @Zff.eq_1 @Zff.eq_2 @Zfg.eq_1 (ja4 @Zfg.eq_2 @hlast @hl2 @hbit)) ?_|exact zU (ja8 @ZcJ.eq_1 @ZcJ.eq_2 @ZcK.eq_1 @ZcK.eq_2 @Zff.eq_1 @Zff.eq_2 @Zfg.eq_1 (ja4 @Zfg.eq_2 @hlast @hl2 @hbit)))
      simp only [KB];omega
     | ok o j =>
      simp only [BR.bnd,BT.run] at hr
      subst hr
      iterate 1 (first|refine zR BF8 ?_|exact zU BF8)
      refine SWp.le (Zaj (N:=56) (gc:=KB F) (l:=[(3,int 0),(4,int (h:Int))]) (h:=[(1000,0,.row false (unR true most ((31+(1000*F+1))) o.length)),(1001,0,.row false (rdR nl b j)),(1002,(31+(1000*F+1)),.row (nl0 o.length) (o.map u8))]) rfl ?_ ?_ ?_) ?_
      ·simp only [KB];omega
      iterate 2 (case _=>(first|exact yU BF9|refine yR BF9 ?_))
      refine SWp.renew 1002 ((31+(1000*F+1))) (o:=.row (nl0 o.length) (o.map u8)) yT ?_
      refine SWp.le (Zaj (N:=56) (gc:=KB F+1) (l:=[(3,int 0),(4,int (h:Int))]) (h:=[(1000,0,.row false (unR true most (KB F) o.length)),(1001,0,.row false (rdR nl b j)),(1002,KB F,.row (nl0 o.length) (o.map u8))]) rfl ?_ ?_ ?_) ?_
      ·exact Nat.le_refl _
      iterate 2 (case _=>(first|exact yU BF10|refine yR BF10 ?_))
      repeat (first|refine zR (ja8 @Zff.eq_1 @Zff.eq_2 @Zfg.eq_1 @Zfg.eq_2 @unO.eq_1 @unR.eq_1 @rdR.eq_1 (ja3 @hfx @hlast @hl2)) ?_|exact zU (ja8 @Zff.eq_1 @Zff.eq_2 @Zfg.eq_1 @Zfg.eq_2 @unO.eq_1 @unR.eq_1 @rdR.eq_1 (ja3 @hfx @hlast @hl2)))
   ·rw [if_neg k1] at hr1
    have d1:decide ((p:Int)=1)=false:=decide_eq_false zO
    rw [decide_eq_false k1,Bool.or_false] at hfx
    by_cases k2:p=2
    ·rw [if_pos k2] at hr1
     subst k2
     rw [Zal] at hr1
     have hTo:=ZoX ht t most nl b hb (i+3) c1 out _ rfl
     have hTi:=fun a j (q:ZsN.run (Zah b) (i+3) = .ok a j)=>And.intro ((Zh1 q).2 (by rw [Zac];exact c1)) (ZFK c1 q)
     have hTs:=fun e (q:ZsN.run (Zah b) (i+3) = .no e)=>ZfS ZvF q
     obtain ⟨r2,hr2⟩:∃ r2,r2=ZsN.run (Zah b) (i+3):=⟨_,rfl⟩
     rw [←hr2] at hTo hTi hTs hr1
     repeat (first|refine zR (ja6 @unR.eq_1 @rdR.eq_1 hp.symm @Nat.pow_one @d0 @d1) ?_|exact zU (ja6 @unR.eq_1 @rdR.eq_1 hp.symm @Nat.pow_one @d0 @d1))
     refine Zae [(1000,0),(1001,0),(1002,0)] 3000 hTo zB zB ?_ ?_ ?_
     iterate 2 (case _=>(first|exact yU BF0|refine yR BF0 ?_))
     cases r2 with
     | no e =>
      have he:=hTs e rfl
      have de:decide ((e:Int)=0)=false:=decide_eq_false zO
      simp only [BR.bnd] at hr1
      subst hr1
      simp only [BR.bnd] at hr
      subst hr
      repeat (first|refine zR (ja8 @Zes.eq_1 @Zes.eq_2 @ZbN.eq_1 @ZbN.eq_2 @Zff.eq_1 @Zff.eq_2 @Zfg.eq_1 (ja5 @Zfg.eq_2 @hlast @hl2 @hbit @de)) ?_|exact zU (ja8 @Zes.eq_1 @Zes.eq_2 @ZbN.eq_1 @ZbN.eq_2 @Zff.eq_1 @Zff.eq_2 @Zfg.eq_1 (ja5 @Zfg.eq_2 @hlast @hl2 @hbit @de)))
      simp only [KB];omega
     | ok q j2 =>
      obtain ⟨hj2,hl,hKl,hd,hKd⟩:=hTi q j2 rfl
      rw [Zac] at hj2
      simp only [BR.bnd] at hr1
      have hS:=Zl5 t most hm nl b hb j2 hj2 out ho q.1 q.2 hl hKl hd hKd F zO r1 hr1
      repeat (first|refine zR BF24 ?_|exact zU BF24)
      refine Zae [(1000,0),(1001,0),(1002,0)] 4000 hS zB zB ?_ ?_ ?_
      iterate 2 (case _=>(first|exact yU BF25|refine yR BF25 ?_))
      cases r1 with
      | no e =>
       simp only [BR.bnd] at hr
       subst hr
       repeat (first|refine zR (ja8 @ZcJ.eq_1 @ZcJ.eq_2 @ZcK.eq_1 @ZcK.eq_2 @Zff.eq_1 @Zff.eq_2 @Zfg.eq_1 (ja4 @Zfg.eq_2 @hlast @hl2 @hbit)) ?_|exact zU (ja8 @ZcJ.eq_1 @ZcJ.eq_2 @ZcK.eq_1 @ZcK.eq_2 @Zff.eq_1 @Zff.eq_2 @Zfg.eq_1 (ja4 @Zfg.eq_2 @hlast @hl2 @hbit)))
       simp only [KB];omega
      | ok o j =>
       simp only [BR.bnd,BT.run] at hr
       subst hr
       iterate 1 (first|refine zR BF8 ?_|exact zU BF8)
       refine SWp.le (Zaj (N:=56) (gc:=KB F) (l:=[(3,int 0),(4,int (h:Int))]) (h:=[(1000,0,.row false (unR t most ((600031+(1000*F+1))) o.length)),(1001,0,.row false (rdR nl b j)),(1002,(600031+(1000*F+1)),.row (nl0 o.length) (o.map u8))]) rfl ?_ ?_ ?_) ?_
       ·simp only [KB];omega
       iterate 2 (case _=>(first|exact yU BF9|refine yR BF9 ?_))
       refine SWp.renew 1002 ((600031+(1000*F+1))) (o:=.row (nl0 o.length) (o.map u8)) yT ?_
       refine SWp.le (Zaj (N:=56) (gc:=KB F+1) (l:=[(3,int 0),(4,int (h:Int))]) (h:=[(1000,0,.row false (unR t most (KB F) o.length)),(1001,0,.row false (rdR nl b j)),(1002,KB F,.row (nl0 o.length) (o.map u8))]) rfl ?_ ?_ ?_) ?_
       ·exact Nat.le_refl _
       iterate 2 (case _=>(first|exact yU BF10|refine yR BF10 ?_))
       repeat (first|refine zR (ja8 @Zff.eq_1 @Zff.eq_2 @Zfg.eq_1 @Zfg.eq_2 @unO.eq_1 @unR.eq_1 @rdR.eq_1 (ja3 @hfx @hlast @hl2)) ?_|exact zU (ja8 @Zff.eq_1 @Zff.eq_2 @Zfg.eq_1 @Zfg.eq_2 @unO.eq_1 @unR.eq_1 @rdR.eq_1 (ja3 @hfx @hlast @hl2)))
    ·rw [if_neg k2] at hr1
     simp only [BT.run] at hr1
     subst hr1
     simp only [BR.bnd] at hr
     subst hr
     have d2:decide ((p:Int)=2)=false:=decide_eq_false zO
     repeat (first|refine zR (ja8 @unR.eq_1 @rdR.eq_1 hp.symm @Nat.pow_one @d0 @d1 @d2 (ja7 @Zff.eq_1 @Zff.eq_2 @Zfg.eq_1 @Zfg.eq_2 @hlast @hl2 @hbit)) ?_|exact zU (ja8 @unR.eq_1 @rdR.eq_1 hp.symm @Nat.pow_one @d0 @d1 @d2 (ja7 @Zff.eq_1 @Zff.eq_2 @Zfg.eq_1 @Zfg.eq_2 @hlast @hl2 @hbit)))
     simp only [KB];omega
 ·rw [if_neg c1] at hr
  simp only [BR.bnd] at hr
  subst hr
  have hbit:ZGu b i=false:=by rw [ZGu,decide_eq_false c1,Bool.false_and]
  have hT:=Zd2 nl b hb i hi 3 (decide_eq_false zO)
  repeat (first|refine zR BF6 ?_|exact zU BF6)
  refine Zae [(1001,0)] 2000 hT zB zB ?_ ?_ ?_
  iterate 2 (case _=>(first|exact yU @rdR.eq_1|refine yR @rdR.eq_1 ?_))
  repeat (first|refine zR (ja7 @unR.eq_1 @rdR.eq_1 @Zff.eq_1 @Zff.eq_2 @Zfg.eq_1 @Zfg.eq_2 @hbit) ?_|exact zU (ja7 @unR.eq_1 @rdR.eq_1 @Zff.eq_1 @Zff.eq_2 @Zfg.eq_1 @Zfg.eq_2 @hbit))
  simp only [KB];omega
theorem ZAg {p q r:Nat × Nat} {hs:List (Nat × Nat)} {D c g:Nat} (h:g≠0):rho (p::q::r::hs) D c 1002 g=(r.1,c+g):=by simp [rho,ZbF,h]
theorem ZAh {b:List UInt8} {l d:List Nat} {most:Nat}:∀ {f:Nat} {out o:List UInt8} {i j:Nat},out.length≤most→(ZoT l d most f out).run (Zah b) i = .ok o j→o.length≤most:=by
 intro f
 induction f with
 | zero=>intro out o i j _ h;simp [ZoT,BT.run] at h
 | succ f ih =>
  intro out o i j ho h
  rw [ZoT,Zal] at h
  cases h1:(Zx0 l 15 0 0).run (Zah b) i with
  | no e=>rw [h1] at h;cases h
  | ok s k =>
   rw [h1] at h
   simp only [BR.bnd] at h
   by_cases c:s<256
   ·rw [if_pos c] at h
    by_cases c2:most≤out.length
    ·rw [if_pos c2] at h;simp [BT.run] at h
    ·rw [if_neg c2] at h
     exact ih (by rw [List.length_append,List.length_singleton];omega) h
   ·rw [if_neg c] at h
    by_cases c2:s=256
    ·rw [if_pos c2] at h
     simp only [BT.run,BR.ok.injEq] at h
     rw [←h.1];exact ho
    ·rw [if_neg c2,Zal] at h
     cases h2:(Zx1 most d out (s-257)).run (Zah b) k with
     | no e=>rw [h2] at h;cases h
     | ok o2 k2 =>
      rw [h2] at h
      exact ih (Zz7 h2) h
theorem ZDm {b:List UInt8} {n:Nat}:∀ {bs:List UInt8} {i j:Nat},(ZvB n).run (Zah b) i = .ok bs j→bs.length=n:=by
 induction n with
 | zero=>intro bs i j h;simp only [ZvB,BT.run,BR.ok.injEq] at h;rw [←h.1];rfl
 | succ n ih =>
  intro bs i j h
  rw [ZvB,Zal] at h
  cases h1:(ZjN 8).run (Zah b) i with
  | no e=>rw [h1] at h;cases h
  | ok x k =>
   rw [h1] at h
   simp only [BR.bnd,Zal] at h
   cases h2:(ZvB n).run (Zah b) k with
   | no e=>rw [h2] at h;cases h
   | ok r k2 =>
    have:=ih h2
    rw [h2] at h
    simp only [BR.bnd,BT.run,BR.ok.injEq] at h
    rw [←h.1,List.length_cons,this]
theorem ZFL {b:List UInt8} {most F h:Nat} {out o:List UInt8} {i j:Nat} (ho:out.length≤most) (q:(ZrO most F out h).run (Zah b) i = .ok o j):o.length≤most:=by
 unfold ZrO at q
 split at q
 ·simp only [ZDa,BT.run,Zal] at q
  cases h1:(ZjN ((i+7) / 8*8-i)).run (Zah b) i with
  | no e=>rw [h1] at q;cases q
  | ok s k =>
   rw [h1] at q
   simp only [BR.bnd,Zal] at q
   cases h2:(ZjN 16).run (Zah b) k with
   | no e=>rw [h2] at q;cases q
   | ok n k2 =>
    rw [h2] at q
    simp only [BR.bnd,Zal] at q
    cases h3:(ZjN 16).run (Zah b) k2 with
    | no e=>rw [h3] at q;cases q
    | ok m k3 =>
     rw [h3] at q
     simp only [BR.bnd] at q
     split at q
     ·simp [BT.run] at q
     ·rw [Zal] at q
      cases h4:(ZvB n).run (Zah b) k3 with
      | no e=>rw [h4] at q;cases q
      | ok bs k4 =>
       have hl:=ZDm h4
       rw [h4] at q
       simp only [BR.bnd] at q
       split at q
       ·simp [BT.run] at q
       ·simp only [BT.run,BR.ok.injEq] at q
        rw [←q.1,List.length_append];omega
 ·split at q
  ·exact ZAh ho q
  ·split at q
   ·rw [Zal] at q
    cases h1:ZsN.run (Zah b) i with
    | no e=>rw [h1] at q;cases q
    | ok p k=>rw [h1] at q;exact ZAh ho q
   ·simp [BT.run] at q
theorem ZAi {b:List UInt8} {most F i j:Nat} {out:List UInt8} {p:Bool × List UInt8} (hi:i≤8*b.length) (ho:out.length≤most) (h:(ZsO most F out).run (Zah b) i = .ok p j):i<j∧j≤8*b.length∧p.2.length≤most:=by
 have hj:=(Zh1 h).2 (by rw [Zac];exact hi)
 rw [Zac] at hj
 rw [ZsO,Zal,ZeX hi] at h
 split at h
 ·simp only [BR.bnd] at h
  rw [Zal] at h
  cases h1:(ZrO most F out (ZaY b i 3 / 2)).run (Zah b) (i+3) with
  | no e=>rw [h1] at h;cases h
  | ok o k =>
   have h2:=(Zh1 h1).1
   rw [h1] at h
   simp only [BR.bnd,BT.run,BR.ok.injEq] at h
   obtain ⟨rfl,rfl⟩:=h
   exact ⟨by omega,hj,ZFL ho h1⟩
 ·cases h
def ZtC (F:Nat) (b:List UInt8) (most:Int):List UInt8 × Nat × Nat:=if most<0∨16777216<most then ([],0,1) else Zx2 F b most.toNat
def ZDn (r:List UInt8 × Nat × Nat):AV:=if r.2.2=0 then .tup [.sl (nl0 r.1.length) none (r.1.map u8),int (r.2.1:Int),int 0] else .tup [.sc (.slice none 0 0),int 0,int (r.2.2:Int)]
theorem ZAj {r:List UInt8 × Nat × Nat}:(ZDn r).free=true:=by
 unfold ZDn
 by_cases c:r.2.2=0
 ·rw [if_pos c];simp only [AV.free,AV.free.freeL,ZaD,int,Bool.and_self]
 ·rw [if_neg c];rfl
def BF26:=ja2 @List.set_cons_zero.{0} @List.set_cons_succ.{0}
set_option maxHeartbeats 2000000 in
theorem Zrv [Tabs Tryz.prog] (ht:Tabs.tab Tryz.prog 1=some (Ziv.map nA)) (nl:Bool) (b:List UInt8) (hb:b.length≤1000000) (hnl:nl=true→b=[]) (most:Int) (F:Nat) (hF:8*b.length<F) :
  Con Tryz.prog ZhE [.sl nl none (b.map u8),int most] (ZDn (ZtC F b most)):=by
 refine Con.of' mix Tryz.func7 rfl Tryz.ntmps7 ZmF ZmG zB (by simp only [AV.free,AV.free.freeL,ZaD,int,Bool.and_self]) ZAj ?_
 unfold ZhG
 by_cases c1:most<0
 ·have d1:=decide_eq_true c1
  rw [show ZDn (ZtC F b most) = .tup [.sc (.slice none 0 0),int 0,int 1] by rw [ZtC,if_pos (.inl c1)];rfl]
  repeat (first|refine zR @d1 ?_|exact zU @d1)
 have d1:=decide_eq_false c1
 by_cases c2:16777216<most
 ·have d2:=decide_eq_true c2
  rw [show ZDn (ZtC F b most) = .tup [.sc (.slice none 0 0),int 0,int 1] by rw [ZtC,if_pos (.inr c2)];rfl]
  repeat (first|refine zR (ja2 @d1 @d2) ?_|exact zU (ja2 @d1 @d2))
 have d2:=decide_eq_false c2
 rw [show ZtC F b most=Zx2 F b most.toNat by rw [ZtC,if_neg zO]]
 obtain ⟨m,hm⟩:∃ m:Nat,most=(m:Int):=⟨most.toNat,by omega⟩
 subst hm
 rw [Int.toNat_natCast]
 have hm:m≤16777216:=zO
 obtain ⟨r,hr⟩:∃ r,(ZrP m F F []).run (Zah b) 0=r:=⟨_,rfl⟩
 have hse:=fun e (q:(ZrP m F F []).run (Zah b) 0 = .no e)=>ZfS (ZvH _ _) q
 rw [hr] at hse
 rw [Zx2,hr]
 repeat (first|refine zR (ja2 @d1 @d2) ?_|exact zU (ja2 @d1 @d2))
 refine Zae [] 2000 (ZnU nl b hb hnl) zB zB ?_ ?_ ?_
 iterate 2 (case _=>(first|exact yT|refine yS ?_))
 iterate 1 (first|refine zR @rdR.eq_1 ?_|exact zU @rdR.eq_1)
 refine SWp.adoptC 19 2 1 100 none (nl:=false) (cells:=[.op 2006 1 0,.sc (.slice none 0 0),int (m:Int),.sc (.pointer none)]) yT rfl (by decide) ?_
 repeat (first|refine zR BF26 ?_|exact zU BF26)
 refine SWp.loop (α:=Nat × List UInt8 × Nat × Bool × Nat × Nat × Bool) (fun x=>mk 54 x.2.2.2.2.2.1 [(7,.op 19 2 0),(8,boo x.2.2.2.2.2.2)] [(2006,1,.row false (rdR nl b x.2.2.1)),(19,2,.row false [.op 2006 1 0,.own 100 x.2.2.2.2.1 none 0 x.2.1.length,int (m:Int),fxA x.2.2.2.1]),(100,x.2.2.2.2.1,.row (nl0 x.2.1.length) (x.2.1.map u8))])
  (fun x=>(if x.2.2.2.2.2.2=true then BR.ok x.2.1 x.2.2.1 else (ZrP m F x.1 x.2.1).run (Zah b) x.2.2.1)=r∧x.2.2.1≤8*b.length∧8*b.length-x.2.2.1<x.1∧x.2.1.length≤m) (fun x=>x.1+(if x.2.2.2.2.2.2=true then 0 else 1)) (F,[],0,false,3,4,false) ⟨hr,Nat.zero_le _,by simp only;omega,Nat.zero_le _⟩ (Zaj rfl ?_ ?_ ?_) ?_
 ·exact Nat.le_refl _
 iterate 2 (case _=>(first|exact yU (ja3 @rdR.eq_1 @Zl6 @Zbh)|refine yR (ja3 @rdR.eq_1 @Zl6 @Zbh) ?_))
 rintro ⟨f,o,i,t,g,c,last⟩ ⟨hx,hi,hf,ho⟩ -
 simp only at hx hi hf ho
 cases last with
 | true =>
  simp only [if_true] at hx
  subst hx
  obtain ⟨w,hw⟩:∃ w,w=i+7:=⟨_,rfl⟩
  have ew:(i:Int)+8-1=(w:Int):=zO
  have hg:ZDn (o,(i+7) / 8,0) = .tup [.sl (nl0 o.length) none (o.map u8),int (((i+7) / 8:Nat):Int),int 0]:=rfl
  simp only [ZBO]
  rw [hg,←hw]
  repeat (first|refine zS ?_|exact zT)
  refine Zae [(2006,1)] 3000 (ZzX nl b i) zB zB ?_ ?_ ?_
  iterate 2 (case _=>(first|exact yU @rdR.eq_1|refine yR @rdR.eq_1 ?_))
  repeat (first|refine zR (ja2 @rdR.eq_1 @ew) ?_|exact zU (ja2 @rdR.eq_1 @ew))
  all_goals trace_state
 | false =>
  rw [if_neg zB] at hx
  obtain ⟨f,rfl⟩:∃ f',f=f'+1:=⟨f-1,by omega⟩
  rw [ZrP,Zal] at hx
  have hB:=ZuN ht t m hm nl b hb hnl i hi o ho F hF _ rfl
  have hBi:=fun p j (q:(ZsO m F o).run (Zah b) i = .ok p j)=>ZAi hi ho q
  have hBs:=fun e (q:(ZsO m F o).run (Zah b) i = .no e)=>ZfS ZvG q
  obtain ⟨r1,hr1⟩:∃ r1,r1=(ZsO m F o).run (Zah b) i:=⟨_,rfl⟩
  rw [←hr1] at hB hBi hBs hx
  obtain ⟨t2,ht2⟩:∃ t2,t2=fxN t b i:=⟨_,rfl⟩
  obtain ⟨b2,hb2⟩:∃ b2,b2=ZGu b i:=⟨_,rfl⟩
  repeat (first|refine zS ?_|exact zT)
  refine Zae [(19,2),(2006,1),(100,g)] 3000 hB zB zB ?_ ?_ ?_
  iterate 2 (case _=>(first|exact yU BF0|refine yR BF0 ?_))
  cases r1 with
  | no e =>
   simp only [BR.bnd] at hx
   subst hx
   have he:=hBs e rfl
   have de:decide ((e:Int)=0)=false:=decide_eq_false zO
   have hg:ZDn ([],0,e) = .tup [.sc (.slice none 0 0),int 0,int (e:Int)]:=by rw [ZDn,if_neg (by simp only;omega)]
   simp only [ZBO]
   rw [hg]
   repeat (first|refine zR (ja6 @Zff.eq_1 @Zff.eq_2 @Zfg.eq_1 @Zfg.eq_2 hb2.symm @de) ?_|exact zU (ja6 @Zff.eq_1 @Zff.eq_2 @Zfg.eq_1 @Zfg.eq_2 hb2.symm @de))
   all_goals trace_state
  | ok p j =>
   obtain ⟨hij,hj,hp⟩:=hBi p j rfl
   have hKB:KB F≠0:=by simp only [KB];omega
   simp only [BR.bnd] at hx
   repeat (first|refine zR (ja8 @Zff.eq_1 @Zff.eq_2 @Zfg.eq_1 @Zfg.eq_2 @unO.eq_1 @unR.eq_1 @rdR.eq_1 (ja3 @Zab ht2.symm @ZAg)) ?_|exact zU (ja8 @Zff.eq_1 @Zff.eq_2 @Zfg.eq_1 @Zfg.eq_2 @unO.eq_1 @unR.eq_1 @rdR.eq_1 (ja3 @Zab ht2.symm @ZAg)))
   refine At.of (f,p.2,j,t2,c+KB F,c+(KB F+1),p.1) ⟨?_,hj,by simp only;omega,hp⟩ ?_ rfl rfl (Nat.le_refl _) ?_ ?_
   ·simp only
    rw [←hx]
    cases h1:p.1 <;> simp [BT.run]
   ·simp only
    cases p.1 with
    | true=>show f+0<f+1+1;omega
    | false=>show f+1<f+1+1;omega
   iterate 2 (case _=>(first|exact yU @rdR.eq_1|refine yR @rdR.eq_1 ?_))
theorem ZoY [Tabs Tryz.prog] (x:Int):Con Tryz.prog Zhg [int x] (boo false):=by
 refine Con.of' mix Tryz.func156 rfl Tryz.ntmps156 ZpI ZpJ zB rfl rfl ?_
 unfold ZkF
 have d1:decide (x≠x)=false:=by simp
 repeat (first|refine zR @d1 ?_|exact zU @d1)
def Zmp (a b:Int):Int:=if a<b then -1 else if b<a then 1 else 0
theorem Zrw [Tabs Tryz.prog] (x y:Int):Con Tryz.prog ZiG [int x,int y] (int (Zmp x y)):=by
 refine Con.of' mix Tryz.func152 rfl Tryz.ntmps152 ZnS ZnT zB rfl rfl ?_
 unfold ZiS
 repeat (first|refine zS ?_|exact zT)
 refine Zaz _ (.inl ⟨rfl,ZoY x⟩) ?_
 repeat (first|refine zS ?_|exact zT)
 refine Zaz _ (.inl ⟨rfl,ZoY y⟩) ?_
 repeat (first|refine zS ?_|exact zT)
 refine SWp.cond rfl (fun h=>?_) (fun h=>?_)
 ·simp only [decide_eq_true_eq] at h
  have e:Zmp x y=-1:=by unfold Zmp;rw [if_pos h]
  repeat (first|refine zR @e ?_|exact zU @e)
 ·simp only [decide_eq_false_iff_not] at h
  repeat (first|refine zS ?_|exact zT)
  refine SWp.cond rfl (fun h'=>?_) (fun h'=>?_)
  ·simp only [decide_eq_true_eq] at h'
   have e:Zmp x y=1:=by unfold Zmp;rw [if_neg h,if_pos h']
   repeat (first|refine zR @e ?_|exact zU @e)
  ·simp only [decide_eq_false_iff_not] at h'
   have e:Zmp x y=0:=by unfold Zmp;rw [if_neg h,if_neg h']
   repeat (first|refine zR @e ?_|exact zU @e)
def BF27:=ja6 @Zas.eq_1 @Zas.eq_2 @Zas.eq_3 @Zas.eq_4 @Zas.eq_5 @Zas.eq_6
theorem ZdC [Tabs Tryz.prog] (x y:Int) (s t:AV) (hs:s.free=true) (ht:t.free=true):Con Tryz.prog Zby [.agg [int x,s],.agg [int y,t]] (int (Zmp x y)):=by
 refine Con.of' mix Tryz.func148 rfl Tryz.ntmps148 ZpG ZpH zB (by simp only [AV.free,AV.free.freeL,int,hs,ht,Bool.and_self]) rfl ?_
 unfold ZkE
 repeat (first|refine zR BF27 ?_|exact zU BF27)
 refine Zaz _ (.inl ⟨rfl,Zrw x y⟩) ?_
 repeat (first|refine zS ?_|exact zT)
theorem ZkG [Tabs Tryz.prog] (n1 n2:Bool) (xs ys:List AV) (hx:AV.free.freeL xs=true) (hy:AV.free.freeL ys=true) (hl:xs.length≤100000) (hm:ys.length≤100000) (h0:0<xs.length+ys.length) :
  Con Tryz.prog Zbf [.sl false none [.sl n1 none xs,.sl n2 none ys]] (.sl false none (xs++ys)):=by
 refine Con.of' mix Tryz.func75 rfl Tryz.ntmps75 Ze7 Ze8 zB (by simp only [AV.free,AV.free.freeL,hx,hy,Bool.and_self]) (by simp only [AV.free];exact ZbB.2 fun x hx'=>(List.mem_append.1 hx').elim (ZbB.1 hx x) (ZbB.1 hy x)) ?_
 unfold ZcW
 obtain ⟨n,hn⟩:∃ n,n=xs.length+ys.length:=⟨_,rfl⟩
 have hc:(xs.length:Int)+(ys.length:Int)=(n:Int):=zO
 have d1:decide ((xs.length:Int)<0)=false:=decide_eq_false zO
 have d2:decide ((n:Int)<0)=false:=decide_eq_false zO
 repeat (first|refine zR (ja3 @d1 @hc @d2) ?_|exact zU (ja3 @d1 @hc @d2))
 refine SWp.unroll ?_
 repeat (first|refine zR (ja3 @d1 @hc @d2) ?_|exact zU (ja3 @d1 @hc @d2))
 refine Zae [] 1000 (Znu n zO zO) zB zB ?_ ?_ ?_
 iterate 2 (case _=>(first|exact yT|refine yS ?_))
 repeat (first|refine zS ?_|exact zT)
 have e1:xs.length≤70368744177664:=zO
 refine SWp.unroll ?_
 repeat (first|refine zR @List.length_append.{0} ?_|exact zU @List.length_append.{0})
 exact List.take_of_length_le zB
theorem ZsY [Tabs Tryz.prog] (n:Nat) (h0:0<n) (hn:n≤1000000):HCon Tryz.prog Zb7 [.sc (.slice none 0 0),int n] [] (.own 22 1 (some 2) 0 0) [(22,1,.row false [])] 2:=by
 refine HCon.of' mix Tryz.func153 rfl Tryz.ntmps153 Zei Zej zB (by simp [AV.gl,AV.gl.glL,int]) zB ?_
 unfold Zb8
 have d1:decide ((n:Int)<0)=false:=decide_eq_false zO
 have d2:decide ((n:Int)>0)=true:=decide_eq_true zO
 have d3:(n==0)=false:=by simp;omega
 iterate 16 (first|refine zR (ja3 @d1 @d2 @d3) ?_|exact zU (ja3 @d1 @d2 @d3))
 refine SWp.cut 22 0 (g:=1) (nl:=false) (cells:=(List.replicate n [AV.sc (.int .i64 0),AV.sc (.slice none 0 0)]).flatten) yT ?_
 repeat (first|refine zS ?_|exact zT)
def bA (p:Nat × List Nat):AV:=.agg [nA p.1,.sl false none (p.2.map nA)]
def bC (l:List (Nat × List Nat)):List AV:=l.flatMap fun p=>[nA p.1,.sl false none (p.2.map nA)]
theorem Zjy {l:List (Nat × List Nat)}:AV.free.freeL (l.map bA)=true:=ZbB.2 fun x hx=>by
 obtain ⟨p,_,rfl⟩:=List.mem_map.1 hx
 simp only [bA,AV.free,AV.free.freeL,nA,Zaa,Bool.and_self]
theorem Zm0 {l:List (Nat × List Nat)}:AV.free.freeL (bC l)=true:=ZbB.2 fun x hx=>by
 obtain ⟨p,_,hx⟩:=List.mem_flatMap.1 hx
 simp only [List.mem_cons,List.not_mem_nil,or_false] at hx
 rcases hx with rfl | rfl
 ·rfl
 ·simp only [AV.free,Zaa]
theorem ZFM {l:List (Nat × List Nat)}:flat (some 2) (l.map bA)=bC l:=by
 induction l with
 | nil=>rfl
 | cons p l ih =>
  simp only [List.map_cons,bC,List.flatMap_cons] at ih ⊢
  rw [←ih]
  rfl
theorem Za8 {l:List (Nat × List Nat)}:(bC l).length=l.length*2:=by
 induction l with
 | nil=>rfl
 | cons p l ih=>simp only [bC,List.flatMap_cons,List.length_append,List.length_cons,List.length_nil] at ih ⊢;omega
theorem Zl7 {l m:List (Nat × List Nat)}:bC l++bC m=bC (l++m):=by simp [bC]
theorem ZsZ {l:List (Nat × List Nat)}:(∀ y∈l.map bA,∃ xs,y = .agg xs)=True:=eq_true fun y hy=>by
 obtain ⟨p,_,rfl⟩:=List.mem_map.1 hy
 exact ⟨_,rfl⟩
theorem ZvL {l:List (Nat × List Nat)}:(l.map bA).flatMap (fun x=>(Zas x).getD [])=bC l:=ZFM
def BF28:=ja5 @List.length_append.{0} @List.length_map.{0,0} @ZsZ @ZvL @Za8
theorem ZpR [Tabs Tryz.prog] (n1 n2:Bool) (l m:List (Nat × List Nat)) (hl:l.length≤100000) (hm:m.length≤100000) (h0:0<l.length+m.length) :
  HCon Tryz.prog ZbV [.sl false none [.sl n1 (some 2) (l.map bA),.sl n2 (some 2) (m.map bA)]] [] (.own 1022 4 (some 2) 0 (l.length+m.length)) [(1022,4,.row false (bC (l++m)))] 5:=by
 refine HCon.of' mix Tryz.func149 rfl Tryz.ntmps149 ZdP ZdQ zB (by simp only [AV.gl.glL,AV.gl,and_true];exact ⟨Zag _ _ Zjy,Zag _ _ Zjy⟩) zB ?_
 unfold ZbW
 obtain ⟨n,hn⟩:∃ n,n=l.length+m.length:=⟨_,rfl⟩
 have hc:(l.length:Int)+(m.length:Int)=(n:Int):=zO
 have d1:decide ((l.length:Int)<0)=false:=decide_eq_false zO
 have d2:decide ((n:Int)<0)=false:=decide_eq_false zO
 repeat (first|refine xR (ja4 @d1 @hc @d2 @List.length_map.{0,0}) ?_|exact xU (ja4 @d1 @hc @d2 @List.length_map.{0,0}))
 refine SWp.unroll ?_
 repeat (first|refine xR (ja4 @d1 @hc @d2 @List.length_map.{0,0}) ?_|exact xU (ja4 @d1 @hc @d2 @List.length_map.{0,0}))
 refine Zae [] 1000 (ZsY n zO zO) zB zB ?_ ?_ ?_
 iterate 2 (case _=>(first|exact vT|refine vS ?_))
 repeat (first|refine xR @List.length_map.{0,0} ?_|exact xU @List.length_map.{0,0})
 have e1:l.length≤70368744177664:=zO
 refine SWp.unroll ?_
 repeat (first|refine xR BF28 ?_|exact xU BF28)
 exact Zl7
abbrev Bt:=Nat × List Nat
theorem Zm1 {p:Bt} {l:List Bt}:bC (p::l)=nA p.1::.sl false none (p.2.map nA)::bC l:=by simp [bC]
theorem ZAk {l:List Bt} {i:Nat}:(bC l).drop (i*2)=bC (l.drop i):=by
 induction l generalizing i with
 | nil=>simp [bC]
 | cons p l ih =>
  cases i with
  | zero=>simp
  | succ i=>rw [Zm1,Nat.succ_mul];simpa using ih
theorem ZFN {l:List Bt} {i:Nat}:(bC l).take (i*2)=bC (l.take i):=by
 induction l generalizing i with
 | nil=>simp [bC]
 | cons p l ih =>
  cases i with
  | zero=>simp [bC]
  | succ i=>rw [Zm1,show (i+1)*2=i*2+1+1 from by omega,List.take_succ_cons,List.take_succ_cons,ih,List.take_succ_cons,Zm1]
theorem Zdq {l:List Bt} {i:Nat} (h:i<l.length):((bC l).drop (i*2)).take 2=[nA (l.getD i (0,[])).1,.sl false none ((l.getD i (0,[])).2.map nA)]:=by
 rw [ZAk,List.drop_eq_getElem_cons h,Zm1]
 simp [List.getD,List.getElem?_eq_getElem h]
theorem Zha {l:List Bt} {i c:Nat} {s:List Nat} (h:i<l.length):(bC l).take (i*2)++nA c::.sl false none (s.map nA)::(bC l).drop (i*2+2)=bC (l.set i (c,s)):=by
 rw [show i*2+2=(i+1)*2 from by omega,ZFN,ZAk,List.set_eq_take_append_cons_drop,if_pos h,←Zl7,Zm1]
theorem Zs0 {l:List Bt}:∀ n cells,AO.row n cells∈[AO.row false (bC l)]→AV.gl.glL 1 cells:=by
 intro n cells h
 simp only [List.mem_singleton,AO.row.injEq] at h
 obtain ⟨-,rfl⟩:=h
 exact Zag _ _ Zm0
def Zh4 (l:List Bt) (a b:Nat):Nat→List Bt
 | 0=>l
 | k+1=>((Zh4 l a b k).set (a+k) ((Zh4 l a b k).getD (b+k) (0,[]))).set (b+k) ((Zh4 l a b k).getD (a+k) (0,[]))
theorem Zs1 {l:List Bt} {a b k:Nat}:(Zh4 l a b k).length=l.length:=by
 induction k with
 | zero=>rfl
 | succ k ih=>simp [Zh4,ih]
theorem Zen [Tabs Tryz.prog] (l:List Bt) (f:AV) (hf:f.free=true) (hl:l.length≤100000) (a b n:Nat) (ha:a+n≤l.length) (hb:b+n≤l.length) :
  HCon Tryz.prog ZaH [.own 1000 0 (some 2) 0 l.length,int a,int b,int n,f] [.row false (bC l)] (.tup []) [(1000,0,.row false (bC (Zh4 l a b n)))] 1:=by
 refine HCon.of' mix Tryz.func158 rfl Tryz.ntmps158 ZdR ZdS zB (by simp only [AV.gl.glL,AV.gl,int,and_true,true_and];exact ⟨by omega,ZbP _ _ hf⟩) Zs0 ?_
 unfold ZbX
 repeat (first|refine zS ?_|exact zT)
 refine SWp.loop (α:=Nat) (fun k=>mk 38 1 [(0,.own 1000 0 (some 2) 0 l.length),(1,int a),(2,int b),(3,int n),(10,int k)] [(1000,0,.row false (bC (Zh4 l a b k)))])
  (fun k=>k≤n) (fun k=>n-k) 0 (Nat.zero_le _) (Zaj rfl ?_ ?_ ?_) ?_
 ·exact Nat.le_refl _
 iterate 2 (case _=>(first|exact yU (ja2 @Zh4.eq_1 @Zh4.eq_2)|refine yR (ja2 @Zh4.eq_1 @Zh4.eq_2) ?_))
 rintro k hk -
 repeat (first|refine zS ?_|exact zT)
 refine SWp.cond rfl (fun h=>?_) (fun h=>?_)
 ·simp only [decide_eq_true_eq] at h
  have hL:=Zs1 (l:=l) (a:=a) (b:=b) (k:=k)
  obtain ⟨L,hLL⟩:∃ L,L=Zh4 l a b k:=⟨_,rfl⟩
  rw [←hLL] at hL
  obtain ⟨p,hp⟩:∃ p,p=a+k:=⟨_,rfl⟩
  obtain ⟨q,hq⟩:∃ q,q=b+k:=⟨_,rfl⟩
  have ep:(a:Int)+(k:Int)=(p:Int):=zO
  have eq':(b:Int)+(k:Int)=(q:Int):=zO
  have hpl:p<L.length:=zO
  have hql:q<L.length:=zO
  have e1:=Zdq hpl
  have e2:=Zdq hql
  have e3:(bC L).length=l.length*2:=by rw [Za8,hL]
  have hpq:p*2+2≤l.length*2:=zO
  have hqq:q*2+2≤l.length*2:=zO
  obtain ⟨x,hx⟩:∃ x,x=L.getD p (0,[]):=⟨_,rfl⟩
  obtain ⟨y,hy⟩:∃ y,y=L.getD q (0,[]):=⟨_,rfl⟩
  rw [←hx] at e1
  rw [←hy] at e2
  have s1:=Zha (c:=y.1) (s:=y.2) hpl
  have e4:(bC (L.set p (y.1,y.2))).length=l.length*2:=by rw [Za8,List.length_set,hL]
  have s2:=Zha (l:=L.set p (y.1,y.2)) (c:=x.1) (s:=x.2) (i:=q) (by rw [List.length_set];exact hql)
  repeat (first|refine zR (ja8 hLL.symm @ep @eq' @e1 @e2 @e3 @s1 (ja2 @e4 @s2)) ?_|exact zU (ja8 hLL.symm @ep @eq' @e1 @e2 @e3 @s1 (ja2 @e4 @s2)))
  have hsw:Zh4 l a b (k+1)=(L.set p (y.1,y.2)).set q (x.1,x.2):=by
   simp only [Zh4,←hLL,←hp,←hq,←hx,←hy]
  refine At.of (k+1) zO zO rfl rfl (Nat.le_refl _) ?_ ?_
  ·(first|exact yT|refine yS ?_)
   try omega
  ·(first|exact yU @hsw|refine yR @hsw ?_)
 ·simp only [decide_eq_false_iff_not] at h
  obtain rfl:k=n:=zO
  repeat (first|refine zR @ZaC ?_|exact zU @ZaC)
def Srt (l:List Bt):Prop:=l.Pairwise fun p q=>p.1≤q.1
def Zs2 (A:List Bt) (x:Bt):List Bt:=A.takeWhile (fun p=>decide (p.1≤x.1))++x::A.dropWhile (fun p=>decide (p.1≤x.1))
def Zaw (S:List Bt):List Bt:=S.foldl Zs2 []
theorem ZoZ {A1 A2:List Bt} {x:Bt} (h1:∀ q∈A1,q.1≤x.1) (h2:∀ q∈A2,x.1<q.1):Zs2 (A1++A2) x=A1++x::A2:=by
 have e:∀ q∈A1,(fun p:Bt=>decide (p.1≤x.1)) q=true:=fun q hq=>by simpa using h1 q hq
 unfold Zs2
 rw [List.takeWhile_append_of_pos e,List.dropWhile_append_of_pos e]
 cases A2 with
 | nil=>simp
 | cons y A2 =>
  have hy:=h2 y zB
  have:decide (y.1≤x.1)=false:=decide_eq_false zO
  simp [List.takeWhile_cons,List.dropWhile_cons,this]
theorem Zs3 {A:List Bt} {x:Bt} (h:Srt A):∃ A1 A2,A=A1++A2∧(∀ q∈A1,q.1≤x.1)∧∀ q∈A2,x.1<q.1:=by
 induction A with
 | nil=>exact ⟨[],[],rfl,by simp,by simp⟩
 | cons y A ih =>
  have hy:=List.pairwise_cons.1 h
  by_cases c:y.1≤x.1
  ·obtain ⟨A1,A2,rfl,h1,h2⟩:=ih hy.2
   exact ⟨y::A1,A2,rfl,by simpa using ⟨c,by simpa using h1⟩,h2⟩
  ·refine ⟨[],y::A,rfl,by simp,fun q hq=>?_⟩
   rcases List.mem_cons.1 hq with rfl | hq
   ·omega
   ·have:=hy.1 q hq;omega
theorem ZvM {A:List Bt} {x:Bt} (h:Srt A):Srt (Zs2 A x):=by
 obtain ⟨A1,A2,rfl,h1,h2⟩:=Zs3 (x:=x) h
 rw [ZoZ h1 h2]
 obtain ⟨p1,p2,p3⟩:=List.pairwise_append.1 h
 refine List.pairwise_append.2 ⟨p1,List.pairwise_cons.2 ⟨fun q hq=>by have:=h2 q hq;omega,p2⟩,fun a ha b hb=>?_⟩
 rcases List.mem_cons.1 hb with rfl | hb
 ·exact h1 a ha
 ·exact p3 a ha b hb
theorem Zs4:∀ {S A:List Bt},Srt A→Srt (S.foldl Zs2 A)
 | [],_,h=>h
 | _::S,_,h=>Zs4 (S:=S) (ZvM h)
theorem ZcZ (S:List Bt):Srt (Zaw S):=Zs4 List.Pairwise.nil
theorem ZuO {A:List Bt} {x:Bt} (h:Srt A) (c:Nat):(Zs2 A x).filter (fun p=>p.1==c)=(A++[x]).filter fun p=>p.1==c:=by
 obtain ⟨A1,A2,rfl,h1,h2⟩:=Zs3 (x:=x) h
 rw [ZoZ h1 h2]
 simp only [List.filter_append,List.filter_cons,List.filter_nil,List.append_assoc]
 by_cases e:x.1==c
 ·have:A2.filter (fun p=>p.1==c)=[]:=by
   rw [List.filter_eq_nil_iff]
   intro q hq
   have:=h2 q hq
   simp only [beq_iff_eq] at e ⊢
   omega
  simp [this,e]
 ·simp [e]
theorem Znv {c:Nat}:∀ {S A:List Bt},Srt A→(S.foldl Zs2 A).filter (fun p=>p.1==c)=(A++S).filter fun p=>p.1==c
 | [],A,_=>by simp
 | x::S,A,h=>by
  rw [List.foldl_cons,Znv (S:=S) (ZvM h),List.filter_append,ZuO h]
  simp only [List.filter_append,List.filter_cons,List.filter_nil,List.append_assoc]
  split <;> simp
theorem Zd3 {S:List Bt} {c:Nat}:(Zaw S).filter (fun p=>p.1==c)=S.filter fun p=>p.1==c:=by
 have:=Znv (c:=c) (S:=S) (A:=[]) List.Pairwise.nil
 rw [List.nil_append] at this
 exact this
theorem Zqr:∀ {A B:List Bt},Srt A→Srt B→(∀ c,A.filter (fun p=>p.1==c)=B.filter fun p=>p.1==c)→A=B
 | [],[],_,_,_=>rfl
 | [],y::B,_,_,h=>by
  have:=h y.1
  simp at this
 | x::A,[],_,_,h=>by
  have:=h x.1
  simp at this
 | x::A,y::B,ha,hb,h=>by
  have ha':=List.pairwise_cons.1 ha
  have hb':=List.pairwise_cons.1 hb
  have hxy:x.1=y.1:=by
   have h1:∃ q∈y::B,q.1=x.1:=by
    have hx:x∈(y::B).filter (fun p=>p.1==x.1):=by rw [←h x.1];simp
    rw [List.mem_filter] at hx
    exact ⟨x,hx.1,rfl⟩
   have h2:∃ q∈x::A,q.1=y.1:=by
    have hy:y∈(x::A).filter (fun p=>p.1==y.1):=by rw [h y.1];simp
    rw [List.mem_filter] at hy
    exact ⟨y,hy.1,rfl⟩
   obtain ⟨q,hq,e⟩:=h1
   obtain ⟨r,hr,e'⟩:=h2
   have l1:y.1≤x.1:=by
    rcases List.mem_cons.1 hq with rfl | hq
    ·omega
    ·have:=hb'.1 q hq;omega
   have l2:x.1≤y.1:=by
    rcases List.mem_cons.1 hr with rfl | hr
    ·omega
    ·have:=ha'.1 r hr;omega
   omega
  have hx:=h x.1
  have e1:(x.1==x.1)=true:=by simp
  have e2:(y.1==x.1)=true:=by simp [hxy]
  rw [List.filter_cons_of_pos zB,List.filter_cons_of_pos (by simp [hxy])] at hx
  obtain ⟨e,hrest⟩:=List.cons.inj hx
  subst e
  rw [Zqr ha'.2 hb'.2 fun c=>?_]
  have:=h c
  simp only [List.filter_cons] at this
  split at this
  ·exact (List.cons.inj this).2
  ·exact this
theorem Zn8 {S A:List Bt} (h:Srt A) (hf:∀ c,A.filter (fun p=>p.1==c)=S.filter fun p=>p.1==c):A=Zaw S :=
 Zqr h (ZcZ S) fun c=>by rw [hf c,Zd3]
theorem Zqs {S:List Bt} {x:Bt}:Zaw (S++[x])=Zs2 (Zaw S) x:=by simp [Zaw]
theorem ZuP {A:List Bt} {x:Bt}:(Zs2 A x).length=A.length+1:=by
 have:=congrArg List.length (List.takeWhile_append_dropWhile (p:=fun p:Bt=>decide (p.1≤x.1)) (l:=A))
 simp only [List.length_append] at this
 simp only [Zs2,List.length_append,List.length_cons]
 omega
theorem Znw:∀ {S A:List Bt},(S.foldl Zs2 A).length=A.length+S.length
 | [],_=>by simp
 | _::S,A=>by rw [List.foldl_cons,Znw (S:=S),ZuP,List.length_cons];omega
theorem Zap {S:List Bt}:(Zaw S).length=S.length:=by simp [Zaw,Znw]
theorem ZdD {S:List Bt} {q:Bt}:q∈Zaw S↔q∈S:=by
 have h:=Zd3 (S:=S) (c:=q.1)
 have e:∀ l:List Bt,q∈l↔q∈l.filter fun p=>p.1==q.1:=fun l=>by simp
 rw [e (Zaw S),h,←e]
theorem Ze2 {S:List Bt} (h:Srt S):Zaw S=S:=(Zn8 h fun _=>rfl).symm
theorem Zx6 {x:Bt} {Y1 Y2:List Bt} (h:Srt (Y1++Y2)) (h1:∀ y∈Y1,y.1<x.1) (h2:∀ y∈Y2,x.1≤y.1):Zaw (x::(Y1++Y2))=Y1++x::Y2:=by
 refine (Zn8 ?_ fun c=>?_).symm
 ·obtain ⟨p1,p2,p3⟩:=List.pairwise_append.1 h
  refine List.pairwise_append.2 ⟨p1,List.pairwise_cons.2 ⟨h2,p2⟩,fun a ha b hb=>?_⟩
  rcases List.mem_cons.1 hb with rfl | hb
  ·have:=h1 a ha;omega
  ·exact p3 a ha b hb
 ·simp only [List.filter_append,List.filter_cons]
  by_cases e:x.1==c
  ·have:Y1.filter (fun p=>p.1==c)=[]:=by
    rw [List.filter_eq_nil_iff]
    intro q hq
    have:=h1 q hq
    simp only [beq_iff_eq] at e ⊢
    omega
   simp [this,e]
  ·simp [e]
theorem ZuQ {y:Bt} {X1 X2:List Bt} (h:Srt (X1++X2)) (h1:∀ x∈X1,x.1≤y.1) (h2:∀ x∈X2,y.1<x.1):Zaw ((X1++X2)++[y])=X1++y::X2:=by
 rw [Zqs,Ze2 h,ZoZ h1 h2]
theorem Zo0 {X1 X2 Y1 Y2:List Bt} (hx:Srt (X1++X2)) (hy:Srt (Y1++Y2)) (h1:∀ x∈X1,∀ y∈Y2,x.1≤y.1) (h2:∀ y∈Y1,∀ x∈X2,y.1<x.1) :
  Zaw ((X1++X2)++(Y1++Y2))=Zaw (X1++Y1)++Zaw (X2++Y2):=by
 refine (Zn8 ?_ fun c=>?_).symm
 ·refine List.pairwise_append.2 ⟨ZcZ _,ZcZ _,fun a ha b hb=>?_⟩
  rw [ZdD,List.mem_append] at ha hb
  rcases ha with ha | ha <;> rcases hb with hb | hb
  ·exact (List.pairwise_append.1 hx).2.2 a ha b hb
  ·exact h1 a ha b hb
  ·have:=h2 a ha b hb;omega
  ·exact (List.pairwise_append.1 hy).2.2 a ha b hb
 ·rw [List.filter_append,Zd3,Zd3]
  simp only [List.filter_append,List.append_assoc]
  congr 1
  rw [←List.append_assoc,←List.append_assoc]
  congr 1
  by_cases e:∃ y∈Y1,y.1=c
  ·obtain ⟨y,hy1,rfl⟩:=e
   have:X2.filter (fun p=>p.1==y.1)=[]:=by
    rw [List.filter_eq_nil_iff]
    intro q hq
    have:=h2 y hy1 q hq
    simp only [beq_iff_eq]
    omega
   simp [this]
  ·have:Y1.filter (fun p=>p.1==c)=[]:=by
    rw [List.filter_eq_nil_iff]
    intro q hq hh
    exact e ⟨q,hq,by simpa using hh⟩
   simp [this]
def ZdE:AV:=.sc (.func (.func Zby) #[] #[])
theorem Zs5:Zaw []=[]:=rfl
theorem Zs6 {x:Bt}:Zaw [x]=[x]:=rfl
theorem ZjQ {U V:List Bt} {x:Bt}:(U++x::V).getD U.length (0,[])=x:=by simp [List.getD]
theorem Zo1 {U V:List Bt} {x y:Bt}:(U++y::x::V).getD (U.length+1) (0,[])=x:=by simp [List.getD]
theorem ZvN {U V:List Bt} {x y:Bt}:((U++y::x::V).set (U.length+1) y).set U.length x=U++x::y::V:=by
 rw [List.set_append_right _ _ zO,List.set_append_right _ _ zO]
 simp
def BF29:=ja3 @ZaC @List.take_length.{0} @List.drop_length.{0}
theorem ZeI [Tabs Tryz.prog] (Pf S Tl:List Bt) (N a b:Nat) (hN:N=(Pf++S++Tl).length) (hl:N≤100000) (ha:a=Pf.length) (hb:b=Pf.length+S.length) :
  HCon Tryz.prog ZaU [.own 1000 0 (some 2) 0 N,int a,int b,ZdE] [.row false (bC (Pf++S++Tl))] (.tup []) [(1000,0,.row false (bC (Pf++Zaw S++Tl)))] 1:=by
 refine HCon.of' mix Tryz.func154 rfl Tryz.ntmps154 ZcX ZcY zB (by simp only [AV.gl.glL,AV.gl,int,ZdE,and_true];omega) Zs0 ?_
 unfold ZbC
 have hlen:N=Pf.length+S.length+Tl.length:=by rw [hN];simp;omega
 clear hN
 repeat (first|refine zS ?_|exact zT)
 cases S with
 | nil =>
  have d0:decide ((a:Int)+1<(b:Int))=false:=decide_eq_false (by simp at hb;omega)
  refine SWp.unroll ?_
  repeat (first|refine zR (ja3 @d0 @ZaC @Zs5) ?_|exact zU (ja3 @d0 @ZaC @Zs5))
 | cons s0 S =>
  refine SWp.loop (α:=Nat) (fun k=>mk 53 1 [(0,.own 1000 0 (some 2) 0 N),(1,int a),(2,int b),(3,ZdE),(8,int (a+k:Nat))] [(1000,0,.row false (bC (Pf++(Zaw ((s0::S).take k)++((s0::S).drop k++Tl)))))])
   (fun k=>1≤k∧k≤(s0::S).length) (fun k=>(s0::S).length-k) 1 ⟨Nat.le_refl _,by simp⟩ (Zaj rfl ?_ ?_ ?_) ?_
  ·exact Nat.le_refl _
  iterate 2 (case _=>(first|exact yU @Zs6|refine yR @Zs6 ?_))
  generalize hS:s0::S=S' at *
  rintro k ⟨hk1,hk2⟩ -
  obtain ⟨i,hi⟩:∃ i,i=a+k:=⟨_,rfl⟩
  rw [←hi]
  repeat (first|refine zS ?_|exact zT)
  refine SWp.cond rfl (fun h=>?_) (fun h=>?_)
  ·simp only [decide_eq_true_eq] at h
   have hkl:k<S'.length:=zO
   obtain ⟨x,hx⟩:∃ x,x=S'[k]:=⟨_,rfl⟩
   have hdr:S'.drop k=x::S'.drop (k+1):=by rw [hx];exact List.drop_eq_getElem_cons hkl
   have htk:S'.take (k+1)=S'.take k++[x]:=by rw [hx,List.take_succ_eq_append_getElem hkl]
   have hAl:(Zaw (S'.take k)).length=k:=by rw [Zap,List.length_take];omega
   have hsrt:=ZcZ (S'.take k)
   have hnx:Zaw (S'.take (k+1))=Zs2 (Zaw (S'.take k)) x:=by rw [htk,Zqs]
   obtain ⟨A,hA⟩:∃ A,A=Zaw (S'.take k):=⟨_,rfl⟩
   rw [←hA] at hAl hsrt hnx
   have hil:(a:Int)+(A.length:Int)=(i:Int):=zO
   rw [hdr,←hA]
   repeat (first|refine zS ?_|exact zT)
   refine SWp.loop (α:=List Bt × List Bt) (fun p=>mk 53 1 [(0,.own 1000 0 (some 2) 0 N),(1,int a),(2,int b),(3,ZdE),(8,int i),(9,int (a+p.1.length:Nat))] [(1000,0,.row false (bC (Pf++(p.1++x::(p.2++(S'.drop (k+1)++Tl))))))])
    (fun p=>p.1++p.2=A∧∀ q∈p.2,x.1<q.1) (fun p=>p.1.length) (A,[]) ⟨by simp,by simp⟩ (Zaj rfl ?_ ?_ ?_) ?_
   ·exact Nat.le_refl _
   iterate 2 (case _=>(first|exact yU @hil|refine yR @hil ?_))
   rintro ⟨A1,A2⟩ ⟨hA12,hgt⟩ -
   simp only at hA12 hgt
   rcases List.eq_nil_or_concat A1 with rfl | ⟨B,y,rfl⟩
   ·have d1:decide ((a:Int)>(a:Int))=false:=decide_eq_false zO
    have e:Zaw (S'.take (k+1))=x::A2:=by rw [hnx,←hA12,ZoZ zB hgt];rfl
    repeat (first|refine zR (ja3 @List.length_nil.{0} @Nat.add_zero @d1) ?_|exact zU (ja3 @List.length_nil.{0} @Nat.add_zero @d1))
    refine At.of (k+1) zO zO rfl rfl (Nat.le_refl _) ?_ ?_
    ·(first|exact yT|refine yS ?_)
     try omega
    ·(first|exact yU @e|refine yR @e ?_)
   ·simp only [List.concat_eq_append] at hA12 ⊢
    obtain ⟨p,hp⟩:∃ p,p=a+B.length:=⟨_,rfl⟩
    obtain ⟨q,hq⟩:∃ q,q=a+(B++[y]).length:=⟨_,rfl⟩
    obtain ⟨W,hWd⟩:∃ W,W=(Pf++B)++y::x::(A2++(S'.drop (k+1)++Tl)):=⟨_,rfl⟩
    have hW:Pf++((B++[y])++x::(A2++(S'.drop (k+1)++Tl)))=W:=by rw [hWd];simp
    have hqp:q=p+1:=by rw [hq,hp];simp;omega
    have hUl:(Pf++B).length=p:=by rw [hp,ha];simp
    have hBA:B.length+1+A2.length=k:=by rw [←hAl,←hA12];simp;omega
    have hWl:W.length=N:=by
     rw [hWd]
     simp only [List.length_append,List.length_cons,List.length_drop]
     omega
    have hpl:p<W.length:=zO
    have hql:q<W.length:=zO
    have e1:=Zdq hpl
    have e2:=Zdq hql
    have g1:W.getD p (0,[])=y:=by rw [hWd,←hUl];exact ZjQ
    have g2:W.getD q (0,[])=x:=by rw [hWd,hqp,←hUl];exact Zo1
    rw [g1] at e1
    rw [g2] at e2
    have e3:(bC W).length=N*2:=by rw [Za8,hWl]
    have s1:=Zha (c:=y.1) (s:=y.2) hql
    have e4:(bC (W.set q (y.1,y.2))).length=N*2:=by rw [Za8,List.length_set,hWl]
    have s2:=Zha (l:=W.set q (y.1,y.2)) (c:=x.1) (s:=x.2) (i:=p) (by rw [List.length_set];exact hpl)
    have hsw:(W.set q (y.1,y.2)).set p (x.1,x.2)=Pf++(B++(x::(y::(A2++(S'.drop (k+1)++Tl))))):=by
     rw [hWd,hqp,←hUl,ZvN];simp
    rw [hsw] at s2
    have d1:decide ((q:Int)>(a:Int))=true:=decide_eq_true zO
    have eqp:(q:Int)-1=(p:Int):=zO
    have hpN:p*2+2≤N*2:=zO
    have hqN:q*2+2≤N*2:=zO
    rw [←hq,hW]
    clear hW hsw
    repeat (first|refine zR (ja5 @d1 @eqp @e1 @e2 @e3) ?_|exact zU (ja5 @d1 @eqp @e1 @e2 @e3))
    refine Zsl Zby rfl (by decide) ?_
    refine Zaz _ (.inl ⟨by simp only [AV.free,AV.free.freeL,nA,Zaa,Bool.and_self],ZdC (x.1:Int) (y.1:Int) _ _ (by simp only [AV.free,Zaa]) (by simp only [AV.free,Zaa])⟩) ?_
    by_cases c:x.1<y.1
    ·have dc:decide (Zmp (x.1:Int) (y.1:Int)<0)=true:=by
      unfold Zmp;rw [if_pos zO];rfl
     repeat (first|refine zR (ja8 @dc @eqp @e1 @e2 @e3 @s1 @e4 @s2) ?_|exact zU (ja8 @dc @eqp @e1 @e2 @e3 @s1 @e4 @s2))
     refine At.of (B,y::A2) ⟨by rw [←hA12];simp,fun r hr=>?_⟩ zB rfl rfl (Nat.le_refl _) ?_ ?_
     ·rcases List.mem_cons.1 hr with rfl | hr
      ·exact c
      ·exact hgt r hr
     ·(first|exact yT|refine yS ?_)
      try omega
     ·(first|exact yT|refine yS ?_)
    ·have dc:decide (Zmp (x.1:Int) (y.1:Int)<0)=false:=by
      unfold Zmp;rw [if_neg zO];split <;> rfl
     have hle:∀ r∈B++[y],r.1≤x.1:=fun r hr=>by
      rcases List.mem_append.1 hr with hr | hr
      ·rw [←hA12,List.append_assoc] at hsrt
       have:=(List.pairwise_append.1 hsrt).2.2 r hr y zB
       omega
      ·simp only [List.mem_singleton] at hr
       subst hr;omega
     have e:Zaw (S'.take (k+1))=B++[y]++x::A2:=by rw [hnx,←hA12,ZoZ hle hgt]
     repeat (first|refine zR @dc ?_|exact zU @dc)
     refine At.of (k+1) zO zO rfl rfl (Nat.le_refl _) ?_ ?_
     ·(first|exact yT|refine yS ?_)
      try omega
     ·(first|exact yU (ja2 @e @hWd)|refine yR (ja2 @e @hWd) ?_)
  ·simp only [decide_eq_false_iff_not] at h
   obtain rfl:k=S'.length:=zO
   repeat (first|refine zR BF29 ?_|exact zU BF29)
theorem ZFO {U V W:List Bt} {x y:Bt}:((U++(x::(V++(y::W)))).set U.length y).set (U.length+1+V.length) x=U++(y::(V++(x::W))):=by
 rw [List.set_append_right _ _ zO,Nat.sub_self,List.set_cons_zero,List.set_append_right _ _ zO,
  show U.length+1+V.length-U.length=V.length+1 from by omega,List.set_cons_succ,List.set_append_right _ _ zO,Nat.sub_self,List.set_cons_zero]
theorem ZFP {U V W:List Bt} {x y:Bt}:(U++(x::(V++(y::W)))).getD (U.length+1+V.length) (0,[])=y:=by
 simp only [List.getD,List.getElem?_append_right (show U.length≤U.length+1+V.length by omega)]
 rw [show U.length+1+V.length-U.length=V.length+1 from by omega,List.getElem?_cons_succ,List.getElem?_append_right zO]
 simp
theorem Zhb {U X V Y W:List Bt} (h:X.length=Y.length):∀ k,k≤X.length →
  Zh4 (U++(X++(V++(Y++W)))) U.length (U.length+X.length+V.length) k=U++((Y.take k++X.drop k)++(V++((X.take k++Y.drop k)++W)))
 | 0,_=>by simp [Zh4]
 | k+1,hk=>by
  have hkx:k<X.length:=zO
  have hky:k<Y.length:=zO
  have dx:=List.drop_eq_getElem_cons hkx
  have dy:=List.drop_eq_getElem_cons hky
  have tx:=List.take_succ_eq_append_getElem hkx
  have ty:=List.take_succ_eq_append_getElem hky
  have ih:=Zhb (U:=U) (V:=V) (W:=W) h k zO
  generalize X[k]=x at *
  generalize Y[k]=y at *
  have e:U++((Y.take k++X.drop k)++(V++((X.take k++Y.drop k)++W)))=(U++Y.take k)++(x::((X.drop (k+1)++V++X.take k)++(y::(Y.drop (k+1)++W)))):=by
   rw [dx,dy];simp
  have l1:U.length+k=(U++Y.take k).length:=by simp;omega
  have l2:U.length+X.length+V.length+k=(U++Y.take k).length+1+(X.drop (k+1)++V++X.take k).length:=by simp;omega
  simp only [Zh4,ih]
  rw [e,l1,l2,ZFP,ZjQ,ZFO,tx,ty]
  simp
theorem Zao {ρ:Nat→Nat→Nat × Nat} {l:List Bt}:ren.renL ρ (bC l)=bC l:=Zbm ρ _ Zm0
def BF4:=ja2 @Zao @ZdE.eq_1
theorem Zjz [Tabs Tryz.prog] (Pf X0 Y0 Tl:List Bt) (N a m b:Nat) (hN:N=(Pf++(X0++(Y0++Tl))).length) (hl:N≤100000) (ha:a=Pf.length) (hm:m=Pf.length+X0.length) (hb:b=Pf.length+X0.length+Y0.length) (hx0:0<X0.length) (hy0:0<Y0.length) :
  HCon Tryz.prog Zcd [.own 1000 0 (some 2) 0 N,int a,int m,int b,ZdE] [.row false (bC (Pf++(X0++(Y0++Tl))))] (.tup []) [(1000,0,.row false (bC (Pf++(Y0++(X0++Tl)))))] (2+(X0.length+Y0.length)):=by
 refine HCon.of' mix Tryz.func157 rfl Tryz.ntmps157 Zev Zew zB (by simp only [AV.gl.glL,AV.gl,int,ZdE,and_true];omega) Zs0 ?_
 unfold Zcg
 have hlen:N=Pf.length+(X0.length+(Y0.length+Tl.length)):=by rw [hN];simp
 clear hN
 have c1:(m:Int)-(a:Int)=(X0.length:Int):=zO
 have c2:(b:Int)-(m:Int)=(Y0.length:Int):=zO
 obtain ⟨n0,hn0⟩:∃ n0,n0=X0.length+Y0.length:=⟨_,rfl⟩
 rw [←hn0]
 repeat (first|refine zR (ja2 @c1 @c2) ?_|exact zU (ja2 @c1 @c2))
 refine SWp.loop (α:=(List Bt × List Bt) × (List Bt × List Bt) × Nat) (fun p=>mk 58 (1+p.2.2) [(0,.own 1000 0 (some 2) 0 N),(1,int a),(2,int m),(3,int b),(4,ZdE),(10,int p.1.2.length),(11,int p.2.1.1.length)] [(1000,0,.row false (bC (Pf++(p.1.1++(p.1.2++(p.2.1.1++(p.2.1.2++Tl)))))))])
  (fun p=>p.1.1++(p.2.1.1++(p.1.2++p.2.1.2))=Y0++X0∧m=Pf.length+p.1.1.length+p.1.2.length∧0<p.1.2.length∧0<p.2.1.1.length∧p.2.2+p.1.2.length+p.2.1.1.length≤n0)
  (fun p=>p.1.2.length+p.2.1.1.length) (([],X0),(Y0,[]),0) ⟨by simp,by simp;omega,hx0,hy0,by simp;omega⟩ (Zaj rfl ?_ ?_ ?_) ?_
 ·exact Nat.le_refl _
 iterate 2 (case _=>(first|exact yT|refine yS ?_))
 rintro ⟨⟨D1,X⟩,⟨Y,D2⟩,cc⟩ ⟨hD,hmm,hx,hy,hcc⟩ -
 simp only at hD hmm hx hy hcc
 have htot:D1.length+(Y.length+(X.length+D2.length))=Y0.length+X0.length:=by
  have:=congrArg List.length hD
  simpa using this
 have hL:(Pf++(D1++(X++(Y++(D2++Tl))))).length=N:=by simp;omega
 repeat (first|refine zS ?_|exact zT)
 obtain ⟨p,hp⟩:∃ p,p=(Pf++D1).length:=⟨_,rfl⟩
 have hp':p=Pf.length+D1.length:=by rw [hp];simp
 have em:(m:Int)-(X.length:Int)=(p:Int):=zO
 have hmN:m+Y.length≤N:=zO
 refine SWp.cond rfl (fun h=>?_) (fun h=>?_)
 ·have h:X.length≠Y.length:=by
   simp at h;omega
  repeat (first|refine zS ?_|exact zT)
  refine SWp.cond rfl (fun h'=>?_) (fun h'=>?_)
  ·simp only [decide_eq_true_eq] at h'
   have h':Y.length<X.length:=zO
   obtain ⟨X1,hX1⟩:∃ X1,X1=X.take Y.length:=⟨_,rfl⟩
   obtain ⟨X2,hX2⟩:∃ X2,X2=X.drop Y.length:=⟨_,rfl⟩
   have hX:X=X1++X2:=by rw [hX1,hX2,List.take_append_drop]
   have l1:X1.length=Y.length:=by rw [hX1,List.length_take];omega
   have l2:X2.length=X.length-Y.length:=by rw [hX2,List.length_drop]
   have hres:Zh4 (Pf++(D1++(X++(Y++(D2++Tl))))) p m Y.length=Pf++(D1++(Y++(X2++(X1++(D2++Tl))))):=by
    have:=Zhb (U:=Pf++D1) (X:=X1) (V:=X2) (Y:=Y) (W:=D2++Tl) l1 X1.length (Nat.le_refl _)
    rw [←hp,show p+X1.length+X2.length=m from by omega,List.drop_length,List.take_length,l1,List.take_length,List.drop_length] at this
    rw [hX]
    simpa using this
   have hsw:=Zen (Pf++(D1++(X++(Y++(D2++Tl))))) ZdE rfl zO p m Y.length zO zO
   rw [hL,hres] at hsw
   have e2:(X.length:Int)-(Y.length:Int)=(X2.length:Int):=zO
   repeat (first|refine zR @em ?_|exact zU @em)
   refine Zae [(1000,0)] 2000 hsw zB zB ?_ ?_ ?_
   iterate 2 (case _=>(first|exact yU BF4|refine yR BF4 ?_))
   repeat (first|refine zR (ja2 @e2 @Zao) ?_|exact zU (ja2 @e2 @Zao))
   refine At.of ((D1++Y,X2),(X1,D2),cc+1) ⟨?_,?_,?_,?_,?_⟩ ?_ rfl rfl (Nat.le_refl _) ?_ ?_
   ·rw [←hD,hX];simp
   ·simp;omega
   ·simp only;omega
   ·simp only;omega
   ·simp only;omega
   ·simp only;omega
   iterate 2 (case _=>(first|exact yU @l1|refine yR @l1 ?_))
  ·simp only [decide_eq_false_iff_not] at h'
   have h':X.length<Y.length:=zO
   obtain ⟨Y1,hY1⟩:∃ Y1,Y1=Y.take (Y.length-X.length):=⟨_,rfl⟩
   obtain ⟨Y2,hY2⟩:∃ Y2,Y2=Y.drop (Y.length-X.length):=⟨_,rfl⟩
   have hY:Y=Y1++Y2:=by rw [hY1,hY2,List.take_append_drop]
   have l1:Y1.length=Y.length-X.length:=by rw [hY1,List.length_take];omega
   have l2:Y2.length=X.length:=by rw [hY2,List.length_drop];omega
   obtain ⟨q,hq⟩:∃ q,q=m+Y1.length:=⟨_,rfl⟩
   have hres:Zh4 (Pf++(D1++(X++(Y++(D2++Tl))))) p q X.length=Pf++(D1++(Y2++(Y1++(X++(D2++Tl))))):=by
    have:=Zhb (U:=Pf++D1) (X:=X) (V:=Y1) (Y:=Y2) (W:=D2++Tl) l2.symm X.length (Nat.le_refl _)
    rw [←hp,show p+X.length+Y1.length=q from by omega,List.drop_length,List.take_length,←l2,List.take_length,List.drop_length] at this
    rw [hY,←l2]
    simpa using this
   have hsw:=Zen (Pf++(D1++(X++(Y++(D2++Tl))))) ZdE rfl zO p q X.length zO zO
   rw [hL,hres] at hsw
   have e2:(Y.length:Int)-(X.length:Int)=(Y1.length:Int):=zO
   have e3:(m:Int)+(Y.length:Int)-(X.length:Int)=(q:Int):=zO
   repeat (first|refine zR (ja2 @em @e3) ?_|exact zU (ja2 @em @e3))
   refine Zae [(1000,0)] 2000 hsw zB zB ?_ ?_ ?_
   iterate 2 (case _=>(first|exact yU BF4|refine yR BF4 ?_))
   repeat (first|refine zR (ja2 @e2 @Zao) ?_|exact zU (ja2 @e2 @Zao))
   refine At.of ((D1,Y2),(Y1,X++D2),cc+1) ⟨?_,?_,?_,?_,?_⟩ ?_ rfl rfl (Nat.le_refl _) ?_ ?_
   ·rw [←hD,hY];simp
   ·simp only;omega
   ·simp only;omega
   ·simp only;omega
   ·simp only;omega
   ·simp only;omega
   iterate 2 (case _=>(first|exact yU @l2|refine yR @l2 ?_))
 ·have h:X.length=Y.length:=by
   simp at h;omega
  have hres:Zh4 (Pf++(D1++(X++(Y++(D2++Tl))))) p m X.length=Pf++(Y0++(X0++Tl)):=by
   have:=Zhb (U:=Pf++D1) (X:=X) (V:=[]) (Y:=Y) (W:=D2++Tl) h X.length (Nat.le_refl _)
   rw [←hp,show p+X.length+([]:List Bt).length=m from by simp;omega,List.drop_length,List.take_length,h,List.take_length,List.drop_length] at this
   rw [h,show Pf++(Y0++(X0++Tl))=Pf++((Y0++X0)++Tl) from by simp,←hD]
   simpa using this
  have hsw:=Zen (Pf++(D1++(X++(Y++(D2++Tl))))) ZdE rfl zO p m X.length zO zO
  rw [hL,hres] at hsw
  repeat (first|refine zR @em ?_|exact zU @em)
  refine Zae [(1000,0)] 2000 hsw zB zB ?_ ?_ ?_
  iterate 2 (case _=>(first|exact yU BF4|refine yR BF4 ?_))
  repeat (first|refine zR (ja2 @ZaC @Zao) ?_|exact zU (ja2 @ZaC @Zao))
  omega
theorem ZjR {Y:List Bt} (h:Srt Y) {w:Nat} (hw:w<Y.length):∀ y∈Y.take (w+1),y.1≤(Y.getD w (0,[])).1:=fun y hy=>by
 rw [List.take_succ_eq_append_getElem hw] at hy
 have e:Y.getD w (0,[])=Y[w]:=by simp [List.getD,List.getElem?_eq_getElem hw]
 rw [e]
 rcases List.mem_append.1 hy with hy | hy
 ·have:=List.take_append_drop w Y
  rw [←this] at h
  exact (List.pairwise_append.1 h).2.2 y hy Y[w] (by rw [List.drop_eq_getElem_cons hw];exact List.mem_cons_self)
 ·simp only [List.mem_singleton] at hy
  rw [hy];exact Nat.le_refl _
theorem ZjS {Y:List Bt} (h:Srt Y) {w:Nat} (hw:w<Y.length):∀ y∈Y.drop w,(Y.getD w (0,[])).1≤y.1:=fun y hy=>by
 have e:Y.getD w (0,[])=Y[w]:=by simp [List.getD,List.getElem?_eq_getElem hw]
 rw [e]
 have:=List.take_append_drop w Y
 rw [←this] at h
 have h2:=(List.pairwise_append.1 h).2.1
 rw [List.drop_eq_getElem_cons hw] at h2 hy
 rcases List.mem_cons.1 hy with rfl | hy
 ·exact Nat.le_refl _
 ·exact (List.pairwise_cons.1 h2).1 y hy
theorem ZFQ {U V:List Bt} {x y:Bt}:((U++x::y::V).set U.length y).set (U.length+1) x=U++y::x::V:=by
 rw [List.set_append_right _ _ zO,List.set_append_right _ _ zO]
 simp
theorem Zkw [Tabs Tryz.prog] (Pf Y Tl:List Bt) (x:Bt) (N a m b:Nat) (hN:N=(Pf++(x::(Y++Tl))).length) (hl:N≤100000) (ha:a=Pf.length) (hm:m=Pf.length+1) (hb:b=m+Y.length) (hY:Srt Y) (K:Nat) (hK:1≤K) :
  HCon Tryz.prog Zau [.own 1000 0 (some 2) 0 N,int a,int m,int b,ZdE] [.row false (bC (Pf++(x::(Y++Tl))))] (.tup []) [(1000,0,.row false (bC (Pf++(Zaw (x::Y)++Tl))))] K:=by
 refine HCon.of' mix Tryz.func155 rfl Tryz.ntmps155 Zbk Zbl zB (by simp only [AV.gl.glL,AV.gl,int,ZdE,and_true];omega) Zs0 ?_
 unfold ZaJ
 have hlen:N=Pf.length+(Y.length+Tl.length)+1:=by rw [hN];simp;omega
 have d0:decide ((m:Int)-(a:Int)=1)=true:=decide_eq_true zO
 obtain ⟨W,hW⟩:∃ W,W=Pf++(x::(Y++Tl)):=⟨_,rfl⟩
 rw [←hW] at hN
 rw [←hW]
 repeat (first|refine xR @d0 ?_|exact xU @d0)
 refine SWp.loop (α:=Nat × Nat) (fun p=>mk 220 1 [(0,.own 1000 0 (some 2) 0 N),(1,int a),(2,int m),(3,int b),(4,ZdE),(10,int (m+p.1:Nat)),(11,int (m+p.2:Nat))] [(1000,0,.row false (bC W))])
  (fun p=>p.1≤p.2∧p.2≤Y.length∧(∀ y∈Y.take p.1,y.1<x.1)∧(∀ y∈Y.drop p.2,x.1≤y.1)) (fun p=>p.2-p.1) (0,Y.length) ⟨Nat.zero_le _,Nat.le_refl _,by simp,by simp⟩ (Zaj rfl ?_ ?_ ?_) ?_
 ·exact Nat.le_refl _
 iterate 2 (case _=>(first|exact vU @hb|refine vR @hb ?_))
 rintro ⟨u,v⟩ ⟨huv,hv,hlo,hhi⟩ -
 simp only at huv hv hlo hhi
 obtain ⟨i,hi⟩:∃ i,i=m+u:=⟨_,rfl⟩
 obtain ⟨j,hj⟩:∃ j,j=m+v:=⟨_,rfl⟩
 rw [←hi,←hj]
 repeat (first|refine xS ?_|exact xT)
 refine SWp.cond rfl (fun h=>?_) (fun h=>?_)
 ·simp only [decide_eq_true_eq] at h
  obtain ⟨w,hw⟩:∃ w,w=(u+v) / 2:=⟨_,rfl⟩
  obtain ⟨q,hq⟩:∃ q,q=m+w:=⟨_,rfl⟩
  have hmid:IntKind.i64.wrap ((IntKind.u64.wrap ((i:Int)+(j:Int))).fdiv (2^1))=(q:Int):=by
   rw [Zbg zO zO,show ((2:Int)^1)=2 from rfl,Int.fdiv_eq_ediv_of_nonneg _ zO,Zcn zO zO]
   omega
  have hwY:w<Y.length:=zO
  have hql:q<W.length:=zO
  have hal:a<W.length:=zO
  have e1:=Zdq hql
  have e2:=Zdq hal
  have g1:W.getD q (0,[])=Y.getD w (0,[]):=by
   rw [hW,hq,hm]
   simp only [List.getD]
   rw [List.getElem?_append_right zO,show Pf.length+1+w-Pf.length=w+1 from by omega,List.getElem?_cons_succ,List.getElem?_append_left hwY]
  have g2:W.getD a (0,[])=x:=by rw [hW,ha];exact ZjQ
  obtain ⟨y,hy⟩:∃ y,y=Y.getD w (0,[]):=⟨_,rfl⟩
  rw [g1,←hy] at e1
  rw [g2] at e2
  have e3:(bC W).length=N*2:=by rw [Za8,hN]
  have haN:a*2+2≤N*2:=zO
  have hqN:q*2+2≤N*2:=zO
  have hst:=ZjR hY hwY
  have hsd:=ZjS hY hwY
  rw [←hy] at hst hsd
  repeat (first|refine xR (ja4 @hmid @e1 @e2 @e3) ?_|exact xU (ja4 @hmid @e1 @e2 @e3))
  refine Zsl Zby rfl (by decide) ?_
  refine Zaz _ (.inl ⟨by simp only [AV.free,AV.free.freeL,nA,Zaa,Bool.and_self],ZdC (y.1:Int) (x.1:Int) _ _ (by simp only [AV.free,Zaa]) (by simp only [AV.free,Zaa])⟩) ?_
  by_cases c:y.1<x.1
  ·have dc:decide (Zmp (y.1:Int) (x.1:Int)<0)=true:=by
    unfold Zmp;rw [if_pos zO];rfl
   repeat (first|refine xR @dc ?_|exact xU @dc)
   refine At.of (w+1,v) ⟨by simp only;omega,hv,fun r hr=>?_,hhi⟩ (by simp only;omega) rfl rfl (Nat.le_refl _) ?_ ?_
   ·have:=hst r hr;omega
   ·(first|exact vT|refine vS ?_)
    try omega
   ·(first|exact vT|refine vS ?_)
  ·have dc:decide (Zmp (y.1:Int) (x.1:Int)<0)=false:=by
    unfold Zmp;rw [if_neg zO];split <;> rfl
   repeat (first|refine xR @dc ?_|exact xU @dc)
   refine At.of (u,w) ⟨by simp only;omega,by simp only;omega,hlo,fun r hr=>?_⟩ (by simp only;omega) rfl rfl (Nat.le_refl _) ?_ ?_
   ·have:=hsd r hr;omega
   ·(first|exact vT|refine vS ?_)
    try omega
   ·(first|exact vT|refine vS ?_)
 ·simp only [decide_eq_false_iff_not] at h
  obtain rfl:u=v:=zO
  obtain ⟨Yl,hYl⟩:∃ Yl,Yl=Y.take u:=⟨_,rfl⟩
  obtain ⟨Yr,hYr⟩:∃ Yr,Yr=Y.drop u:=⟨_,rfl⟩
  have hYY:Y=Yl++Yr:=by rw [hYl,hYr,List.take_append_drop]
  have hYll:Yl.length=u:=by rw [hYl,List.length_take];omega
  have hfin:Zaw (x::Y)=Yl++x::Yr:=by
   rw [hYY] at hY ⊢
   exact Zx6 hY (hYl ▸ hlo) (hYr ▸ hhi)
  have hii:(i:Int)-1=((a+u:Nat):Int):=zO
  obtain ⟨e,he⟩:∃ e,e=a+u:=⟨_,rfl⟩
  rw [←he] at hii
  have hWl:W=Pf++(x::(Yl++(Yr++Tl))):=by rw [hW,hYY];simp
  repeat (first|refine xS ?_|exact xT)
  refine SWp.loop (α:=List Bt × List Bt) (fun p=>mk 220 1 [(0,.own 1000 0 (some 2) 0 N),(1,int a),(2,int m),(3,int b),(4,ZdE),(10,int i),(13,int (a+p.1.length:Nat))] [(1000,0,.row false (bC (Pf++(p.1++(x::(p.2++(Yr++Tl)))))))])
   (fun p=>p.1++p.2=Yl) (fun p=>p.2.length) ([],Yl) rfl (Zaj rfl ?_ ?_ ?_) ?_
  ·exact Nat.le_refl _
  iterate 2 (case _=>(first|exact vU @hWl|refine vR @hWl ?_))
  rintro ⟨A,B⟩ hAB -
  simp only at hAB
  have hABl:A.length+B.length=u:=by rw [←hYll,←hAB];simp
  obtain ⟨p,hp⟩:∃ p,p=a+A.length:=⟨_,rfl⟩
  have hUl:(Pf++A).length=p:=by rw [hp,ha];simp
  cases B with
  | nil =>
   have hA:A=Yl:=by simpa using hAB
   have d1:decide ((p:Int)<(e:Int))=false:=decide_eq_false (by simp at hABl;omega)
   rw [←hp]
   repeat (first|refine xR (ja4 @hii @d1 @ZaC @hK) ?_|exact xU (ja4 @hii @d1 @ZaC @hK))
   rw [hA,hfin];simp
  | cons y B =>
   simp only [List.length_cons] at hABl
   have d1:decide ((p:Int)<(e:Int))=true:=decide_eq_true zO
   obtain ⟨V,hV⟩:∃ V,V=(Pf++A)++x::y::(B++(Yr++Tl)):=⟨_,rfl⟩
   have hV':Pf++(A++(x::((y::B)++(Yr++Tl))))=V:=by rw [hV];simp
   have hVl:V.length=N:=by
    rw [hV,hlen,hYY];simp only [List.length_append,List.length_cons];omega
   obtain ⟨q,hq⟩:∃ q,q=p+1:=⟨_,rfl⟩
   have epq:(p:Int)+1=(q:Int):=zO
   have hpl:p<V.length:=by
    have:u≤Y.length:=hv
    omega
   have hql:q<V.length:=by
    have:u≤Y.length:=hv
    omega
   have e1:=Zdq hpl
   have e2:=Zdq hql
   have g1:V.getD p (0,[])=x:=by rw [hV,←hUl];exact ZjQ
   have g2:V.getD q (0,[])=y:=by rw [hV,hq,←hUl];exact Zo1
   rw [g1] at e1
   rw [g2] at e2
   have e3:(bC V).length=N*2:=by rw [Za8,hVl]
   have s1:=Zha (c:=y.1) (s:=y.2) hpl
   have e4:(bC (V.set p (y.1,y.2))).length=N*2:=by rw [Za8,List.length_set,hVl]
   have s2:=Zha (l:=V.set p (y.1,y.2)) (c:=x.1) (s:=x.2) (i:=q) (by rw [List.length_set];exact hql)
   have hsw:(V.set p (y.1,y.2)).set q (x.1,x.2)=Pf++(A++(y::(x::(B++(Yr++Tl))))):=by
    rw [hV,hq,←hUl,ZFQ];simp
   rw [hsw] at s2
   have hpN:p*2+2≤N*2:=zO
   have hqN:q*2+2≤N*2:=zO
   rw [←hp,hV']
   clear hV' hsw
   repeat (first|refine xR (ja8 @hii @d1 @epq @e1 @e2 @e3 @s1 (ja2 @e4 @s2)) ?_|exact xU (ja8 @hii @d1 @epq @e1 @e2 @e3 @s1 (ja2 @e4 @s2)))
   refine At.of (A++[y],B) (by rw [←hAB];simp) zB rfl rfl (Nat.le_refl _) ?_ ?_
   ·(first|exact vT|refine vS ?_)
    try omega
   ·(first|exact vT|refine vS ?_)
theorem ZjA [Tabs Tryz.prog] (Pf X Tl:List Bt) (y:Bt) (N a m b:Nat) (hN:N=(Pf++(X++(y::Tl))).length) (hl:N≤100000) (ha:a=Pf.length) (hm:m=Pf.length+X.length) (hb:b=m+1) (hX2:2≤X.length) (hX:Srt X) (K:Nat) (hK:1≤K) :
  HCon Tryz.prog Zau [.own 1000 0 (some 2) 0 N,int a,int m,int b,ZdE] [.row false (bC (Pf++(X++(y::Tl))))] (.tup []) [(1000,0,.row false (bC (Pf++(Zaw (X++[y])++Tl))))] K:=by
 refine HCon.of' mix Tryz.func155 rfl Tryz.ntmps155 Zbk Zbl zB (by simp only [AV.gl.glL,AV.gl,int,ZdE,and_true];omega) Zs0 ?_
 unfold ZaJ
 have hlen:N=Pf.length+(X.length+Tl.length)+1:=by rw [hN];simp;omega
 have d0:decide ((m:Int)-(a:Int)=1)=false:=decide_eq_false zO
 have d00:decide ((b:Int)-(m:Int)=1)=true:=decide_eq_true zO
 obtain ⟨W,hW⟩:∃ W,W=Pf++(X++(y::Tl)):=⟨_,rfl⟩
 rw [←hW] at hN
 rw [←hW]
 repeat (first|refine xR (ja2 @d0 @d00) ?_|exact xU (ja2 @d0 @d00))
 refine SWp.loop (α:=Nat × Nat) (fun p=>mk 220 1 [(0,.own 1000 0 (some 2) 0 N),(1,int a),(2,int m),(3,int b),(4,ZdE),(14,int (a+p.1:Nat)),(15,int (a+p.2:Nat))] [(1000,0,.row false (bC W))])
  (fun p=>p.1≤p.2∧p.2≤X.length∧(∀ x∈X.take p.1,x.1≤y.1)∧(∀ x∈X.drop p.2,y.1<x.1)) (fun p=>p.2-p.1) (0,X.length) ⟨Nat.zero_le _,Nat.le_refl _,by simp,by simp⟩ (Zaj rfl ?_ ?_ ?_) ?_
 ·exact Nat.le_refl _
 iterate 2 (case _=>(first|exact vU (ja2 @hm @ha)|refine vR (ja2 @hm @ha) ?_))
 rintro ⟨u,v⟩ ⟨huv,hv,hlo,hhi⟩ -
 simp only at huv hv hlo hhi
 obtain ⟨i,hi⟩:∃ i,i=a+u:=⟨_,rfl⟩
 obtain ⟨j,hj⟩:∃ j,j=a+v:=⟨_,rfl⟩
 rw [←hi,←hj]
 repeat (first|refine xS ?_|exact xT)
 refine SWp.cond rfl (fun h=>?_) (fun h=>?_)
 ·simp only [decide_eq_true_eq] at h
  obtain ⟨q,hq⟩:∃ q,q=(i+j) / 2:=⟨_,rfl⟩
  obtain ⟨w,hw⟩:∃ w,w=q-a:=⟨_,rfl⟩
  have hmid:IntKind.i64.wrap ((IntKind.u64.wrap ((i:Int)+(j:Int))).fdiv (2^1))=(q:Int):=by
   rw [Zbg zO zO,show ((2:Int)^1)=2 from rfl,Int.fdiv_eq_ediv_of_nonneg _ zO,Zcn zO zO]
   omega
  have hwX:w<X.length:=zO
  have hql:q<W.length:=zO
  have hml:m<W.length:=zO
  have e1:=Zdq hql
  have e2:=Zdq hml
  have g1:W.getD q (0,[])=X.getD w (0,[]):=by
   rw [hW]
   simp only [List.getD]
   rw [List.getElem?_append_right zO,show q-Pf.length=w from by omega,List.getElem?_append_left hwX]
  have g2:W.getD m (0,[])=y:=by
   rw [hW,←List.append_assoc,show m=(Pf++X).length from by simp;omega];exact ZjQ
  obtain ⟨x,hx⟩:∃ x,x=X.getD w (0,[]):=⟨_,rfl⟩
  rw [g1,←hx] at e1
  rw [g2] at e2
  have e3:(bC W).length=N*2:=by rw [Za8,hN]
  have hmN:m*2+2≤N*2:=zO
  have hqN:q*2+2≤N*2:=zO
  have hst:=ZjR hX hwX
  have hsd:=ZjS hX hwX
  rw [←hx] at hst hsd
  repeat (first|refine xR (ja4 @hmid @e1 @e2 @e3) ?_|exact xU (ja4 @hmid @e1 @e2 @e3))
  refine Zsl Zby rfl (by decide) ?_
  refine Zaz _ (.inl ⟨by simp only [AV.free,AV.free.freeL,nA,Zaa,Bool.and_self],ZdC (y.1:Int) (x.1:Int) _ _ (by simp only [AV.free,Zaa]) (by simp only [AV.free,Zaa])⟩) ?_
  by_cases c:y.1<x.1
  ·have dc:decide (Zmp (y.1:Int) (x.1:Int)<0)=true:=by
    unfold Zmp;rw [if_pos zO];rfl
   repeat (first|refine xR @dc ?_|exact xU @dc)
   refine At.of (u,w) ⟨by simp only;omega,by simp only;omega,hlo,fun r hr=>?_⟩ (by simp only;omega) rfl rfl (Nat.le_refl _) ?_ ?_
   ·have:=hsd r hr;omega
   ·(first|exact vT|refine vS ?_)
    try omega
   ·(first|exact vT|refine vS ?_)
  ·have dc:decide (Zmp (y.1:Int) (x.1:Int)<0)=false:=by
    unfold Zmp;rw [if_neg zO];split <;> rfl
   repeat (first|refine xR @dc ?_|exact xU @dc)
   refine At.of (w+1,v) ⟨by simp only;omega,hv,fun r hr=>?_,hhi⟩ (by simp only;omega) rfl rfl (Nat.le_refl _) ?_ ?_
   ·have:=hst r hr;omega
   ·(first|exact vT|refine vS ?_)
    try omega
   ·(first|exact vT|refine vS ?_)
 ·simp only [decide_eq_false_iff_not] at h
  obtain rfl:u=v:=zO
  obtain ⟨Xl,hXl⟩:∃ Xl,Xl=X.take u:=⟨_,rfl⟩
  obtain ⟨Xr,hXr⟩:∃ Xr,Xr=X.drop u:=⟨_,rfl⟩
  have hXX:X=Xl++Xr:=by rw [hXl,hXr,List.take_append_drop]
  have hXll:Xl.length=u:=by rw [hXl,List.length_take];omega
  have hXrl:Xr.length+u=X.length:=by rw [hXr,List.length_drop];omega
  have hfin:Zaw (X++[y])=Xl++y::Xr:=by
   rw [hXX] at hX ⊢
   exact ZuQ hX (hXl ▸ hlo) (hXr ▸ hhi)
  have hWl:W=Pf++(Xl++(Xr++(y::Tl))):=by rw [hW,hXX];simp
  have him:(i:Int)+(Xr.length:Int)=(m:Int):=zO
  repeat (first|refine xS ?_|exact xT)
  refine SWp.loop (α:=List Bt × List Bt) (fun p=>mk 220 1 [(0,.own 1000 0 (some 2) 0 N),(1,int a),(2,int m),(3,int b),(4,ZdE),(14,int i),(17,int (i+p.1.length:Nat))] [(1000,0,.row false (bC (Pf++(Xl++(p.1++(y::(p.2++Tl)))))))])
   (fun p=>p.1++p.2=Xr) (fun p=>p.1.length) (Xr,[]) zB (Zaj rfl ?_ ?_ ?_) ?_
  ·exact Nat.le_refl _
  iterate 2 (case _=>(first|exact vU (ja2 @him @hWl)|refine vR (ja2 @him @hWl) ?_))
  rintro ⟨A,B⟩ hAB -
  simp only at hAB
  have hABl:A.length+B.length=Xr.length:=by rw [←hAB];simp
  rcases List.eq_nil_or_concat A with rfl | ⟨A,z,rfl⟩
  ·have hB:B=Xr:=by simpa using hAB
   have d1:decide ((i:Int)>(i:Int))=false:=decide_eq_false zO
   repeat (first|refine xR (ja5 @List.length_nil.{0} @Nat.add_zero @d1 @ZaC @hK) ?_|exact xU (ja5 @List.length_nil.{0} @Nat.add_zero @d1 @ZaC @hK))
   rw [hB,hfin];simp
  ·simp only [List.concat_eq_append] at hAB hABl ⊢
   simp only [List.length_append,List.length_cons,List.length_nil] at hABl
   obtain ⟨p,hp⟩:∃ p,p=i+A.length:=⟨_,rfl⟩
   obtain ⟨q,hq⟩:∃ q,q=i+(A++[z]).length:=⟨_,rfl⟩
   have hqp:q=p+1:=by rw [hq,hp];simp;omega
   have d1:decide ((q:Int)>(i:Int))=true:=decide_eq_true zO
   obtain ⟨V,hV⟩:∃ V,V=(Pf++Xl++A)++z::y::(B++Tl):=⟨_,rfl⟩
   have hV':Pf++(Xl++((A++[z])++(y::(B++Tl))))=V:=by rw [hV];simp
   have hUl:(Pf++Xl++A).length=p:=by rw [hp,hi,ha];simp;omega
   have hVl:V.length=N:=by
    rw [hV,hlen];simp only [List.length_append,List.length_cons];omega
   have epq:(q:Int)-1=(p:Int):=zO
   have hpl:p<V.length:=zO
   have hql:q<V.length:=zO
   have e1:=Zdq hpl
   have e2:=Zdq hql
   have g1:V.getD p (0,[])=z:=by rw [hV,←hUl];exact ZjQ
   have g2:V.getD q (0,[])=y:=by rw [hV,hqp,←hUl];exact Zo1
   rw [g1] at e1
   rw [g2] at e2
   have e3:(bC V).length=N*2:=by rw [Za8,hVl]
   have s1:=Zha (c:=z.1) (s:=z.2) hql
   have e4:(bC (V.set q (z.1,z.2))).length=N*2:=by rw [Za8,List.length_set,hVl]
   have s2:=Zha (l:=V.set q (z.1,z.2)) (c:=y.1) (s:=y.2) (i:=p) (by rw [List.length_set];exact hpl)
   have hsw:(V.set q (z.1,z.2)).set p (y.1,y.2)=Pf++(Xl++(A++(y::(z::(B++Tl))))):=by
    rw [hV,hqp,←hUl,ZvN];simp
   rw [hsw] at s2
   have hpN:p*2+2≤N*2:=zO
   have hqN:q*2+2≤N*2:=zO
   rw [←hq,hV']
   clear hV' hsw
   repeat (first|refine xR (ja8 @d1 @epq @e1 @e2 @e3 @s1 @e4 @s2) ?_|exact xU (ja8 @d1 @epq @e1 @e2 @e3 @s1 @e4 @s2))
   refine At.of (A,z::B) (by rw [←hAB];simp) zB rfl rfl (Nat.le_refl _) ?_ ?_
   ·(first|exact vT|refine vS ?_)
    try omega
   ·(first|exact vT|refine vS ?_)
def KM (n:Nat):Nat:=10*n*n
theorem ZD6 {n:Nat} (h:1≤n):1≤KM n:=by
 have:=Nat.mul_le_mul h h
 unfold KM;rw [Nat.mul_assoc];omega
theorem ZD7 {p q:Nat} (hp:1≤p) (hq:1≤q):3+(p+q)+KM p+KM q≤KM (p+q):=by
 unfold KM
 have e:10*(p+q)*(p+q)=10*p*p+10*q*q+20*(p*q):=by
  simp only [Nat.mul_add,Nat.add_mul,Nat.mul_assoc,Nat.mul_comm q p]
  omega
 have h1:p+q≤p*q+1:=by
  obtain ⟨p',rfl⟩:∃ p',p=p'+1:=⟨p-1,by omega⟩
  obtain ⟨q',rfl⟩:∃ q',q=q'+1:=⟨q-1,by omega⟩
  simp only [Nat.add_mul,Nat.mul_add,Nat.mul_one,Nat.one_mul]
  omega
 have h2:=Nat.mul_le_mul hp hq
 omega
set_option maxHeartbeats 4000000 in
theorem Zh5 [Tabs Tryz.prog]:∀ (n:Nat) (Pf X Y Tl:List Bt) (N a m b:Nat),X.length+Y.length=n→N=(Pf++(X++(Y++Tl))).length→N≤100000→a=Pf.length→m=Pf.length+X.length→b=m+Y.length→1≤X.length→1≤Y.length→Srt X→Srt Y →
  HCon Tryz.prog Zau [.own 1000 0 (some 2) 0 N,int a,int m,int b,ZdE] [.row false (bC (Pf++(X++(Y++Tl))))] (.tup []) [(1000,0,.row false (bC (Pf++(Zaw (X++Y)++Tl))))] (KM n):=by
 intro n
 induction n using Nat.strongRecOn with
 | _ n ih =>
 intro Pf X Y Tl N a m b hn hN hl ha hm hb hX1 hY1 hX hY
 by_cases c1:X.length=1
 ·obtain ⟨x,rfl⟩:=List.length_eq_one_iff.1 c1
  exact Zkw Pf Y Tl x N a m b hN hl ha hm hb hY (KM n) (ZD6 zO)
 by_cases c2:Y.length=1
 ·obtain ⟨y,rfl⟩:=List.length_eq_one_iff.1 c2
  exact ZjA Pf X Tl y N a m b hN hl ha hm hb zO hX (KM n) (ZD6 zO)
 refine HCon.of' mix Tryz.func155 rfl Tryz.ntmps155 Zbk Zbl zB (by simp only [AV.gl.glL,AV.gl,int,ZdE,and_true];omega) Zs0 ?_
 unfold ZaJ
 have hlen:N=Pf.length+(X.length+(Y.length+Tl.length)):=by rw [hN];simp
 have d0:decide ((m:Int)-(a:Int)=1)=false:=decide_eq_false zO
 have d00:decide ((b:Int)-(m:Int)=1)=false:=decide_eq_false zO
 obtain ⟨mid,hmid⟩:∃ mid,mid=(a+b) / 2:=⟨_,rfl⟩
 obtain ⟨nn,hnn⟩:∃ nn,nn=mid+m:=⟨_,rfl⟩
 obtain ⟨pp,hpp⟩:∃ pp,pp=nn-1:=⟨_,rfl⟩
 have emid:IntKind.i64.wrap ((IntKind.u64.wrap ((a:Int)+(b:Int))).fdiv (2^1))=(mid:Int):=by
  rw [Zbg zO zO,show ((2:Int)^1)=2 from rfl,Int.fdiv_eq_ediv_of_nonneg _ zO,Zcn zO zO]
  omega
 have enn:(mid:Int)+(m:Int)=(nn:Int):=zO
 have epp:(nn:Int)-1=(pp:Int):=zO
 obtain ⟨W,hW⟩:∃ W,W=Pf++(X++(Y++Tl)):=⟨_,rfl⟩
 rw [←hW] at hN
 rw [←hW]
 by_cases hmm:mid<m
 ·have dm:decide ((m:Int)>(mid:Int))=true:=decide_eq_true zO
  obtain ⟨s0,hs0⟩:∃ s0,s0=nn-b:=⟨_,rfl⟩
  obtain ⟨r0,hr0⟩:∃ r0,r0=mid:=⟨_,rfl⟩
  have es0:(nn:Int)-(b:Int)=(s0:Int):=zO
  have b1:a≤s0:=zO
  have b2:s0≤r0:=zO
  have b3:r0≤m:=zO
  have b4:nn-s0≤b:=zO
  have b5:m≤nn-r0:=zO
  have i1:∀ x∈X.take (s0-a),∀ y∈Y.drop (nn-s0-m),x.1≤y.1:=fun x _ y hy=>by
   rw [List.drop_of_length_le zO] at hy;simp at hy
  have i2:∀ y∈Y.take (nn-r0-m),∀ x∈X.drop (r0-a),y.1<x.1:=fun y hy=>by
   rw [show nn-r0-m=0 from by omega] at hy;simp at hy
  repeat (first|refine xR (ja7 @d0 @d00 @emid @enn @dm @es0 @epp) ?_|exact xU (ja7 @d0 @d00 @emid @enn @dm @es0 @epp))
  refine SWp.loop (α:=Nat × Nat) (fun p=>mk 220 1 [(0,.own 1000 0 (some 2) 0 N),(1,int a),(2,int m),(3,int b),(4,ZdE),(18,int mid),(19,int nn),(20,int p.1),(21,int p.2),(22,int pp)] [(1000,0,.row false (bC W))])
   (fun p=>a≤p.1∧p.1≤p.2∧p.2≤m∧nn-p.1≤b∧m≤nn-p.2∧(∀ x∈X.take (p.1-a),∀ y∈Y.drop (nn-p.1-m),x.1≤y.1)∧(∀ y∈Y.take (nn-p.2-m),∀ x∈X.drop (p.2-a),y.1<x.1)) (fun p=>p.2-p.1) (s0,r0) ⟨b1,b2,b3,b4,b5,i1,i2⟩ (Zaj rfl ?_ ?_ ?_) ?_
  ·exact Nat.le_refl _
  iterate 2 (case _=>(first|exact vU (ja2 @hs0 @hr0)|refine vR (ja2 @hs0 @hr0) ?_))
  clear i1 i2 b1 b2 b3 b4 b5
  rintro ⟨s,r⟩ ⟨b1,b2,b3,b4,b5,i1,i2⟩ -
  simp only at b1 b2 b3 b4 b5 i1 i2
  repeat (first|refine xS ?_|exact xT)
  refine SWp.cond rfl (fun h=>?_) (fun h=>?_)
  ·simp only [decide_eq_true_eq] at h
   obtain ⟨q,hq⟩:∃ q,q=(s+r) / 2:=⟨_,rfl⟩
   obtain ⟨e,he⟩:∃ e,e=pp-q:=⟨_,rfl⟩
   have eq1:IntKind.i64.wrap ((IntKind.u64.wrap ((s:Int)+(r:Int))).fdiv (2^1))=(q:Int):=by
    rw [Zbg zO zO,show ((2:Int)^1)=2 from rfl,Int.fdiv_eq_ediv_of_nonneg _ zO,Zcn zO zO]
    omega
   have eq2:(pp:Int)-(q:Int)=(e:Int):=zO
   obtain ⟨u,hu⟩:∃ u,u=q-a:=⟨_,rfl⟩
   obtain ⟨v,hv⟩:∃ v,v=e-m:=⟨_,rfl⟩
   have huX:u<X.length:=zO
   have hvY:v<Y.length:=zO
   have hql:q<W.length:=zO
   have hel:e<W.length:=zO
   have e1:=Zdq hql
   have e2:=Zdq hel
   have g1:W.getD q (0,[])=X.getD u (0,[]):=by
    rw [hW]
    simp only [List.getD]
    rw [List.getElem?_append_right zO,show q-Pf.length=u from by omega,List.getElem?_append_left huX]
   have g2:W.getD e (0,[])=Y.getD v (0,[]):=by
    rw [hW]
    simp only [List.getD]
    rw [List.getElem?_append_right zO,List.getElem?_append_right zO,show e-Pf.length-X.length=v from by omega,List.getElem?_append_left hvY]
   obtain ⟨x,hx⟩:∃ x,x=X.getD u (0,[]):=⟨_,rfl⟩
   obtain ⟨y,hy⟩:∃ y,y=Y.getD v (0,[]):=⟨_,rfl⟩
   rw [g1,←hx] at e1
   rw [g2,←hy] at e2
   have e3:(bC W).length=N*2:=by rw [Za8,hN]
   have heN:e*2+2≤N*2:=zO
   have hqN:q*2+2≤N*2:=zO
   have x1:=ZjR hX huX
   have x2:=ZjS hX huX
   have y1:=ZjR hY hvY
   have y2:=ZjS hY hvY
   rw [←hx] at x1 x2
   rw [←hy] at y1 y2
   repeat (first|refine xR (ja5 @eq1 @eq2 @e1 @e2 @e3) ?_|exact xU (ja5 @eq1 @eq2 @e1 @e2 @e3))
   refine Zsl Zby rfl (by decide) ?_
   refine Zaz _ (.inl ⟨by simp only [AV.free,AV.free.freeL,nA,Zaa,Bool.and_self],ZdC (y.1:Int) (x.1:Int) _ _ (by simp only [AV.free,Zaa]) (by simp only [AV.free,Zaa])⟩) ?_
   by_cases c:y.1<x.1
   ·have dc:decide (Zmp (y.1:Int) (x.1:Int)<0)=true:=by
     unfold Zmp;rw [if_pos zO];rfl
    repeat (first|refine xR @dc ?_|exact xU @dc)
    refine At.of (s,q) ⟨b1,by simp only;omega,by simp only;omega,b4,by simp only;omega,i1,fun y' hy' x' hx'=>?_⟩ (by simp only;omega) rfl rfl (Nat.le_refl _) ?_ ?_
    ·simp only at hy' hx'
     rw [show nn-q-m=v+1 from by omega] at hy'
     rw [show q-a=u from by omega] at hx'
     have h1:=y1 y' hy'
     have h2:=x2 x' hx'
     omega
    ·(first|exact vT|refine vS ?_)
     try omega
    ·(first|exact vT|refine vS ?_)
   ·have dc:decide (Zmp (y.1:Int) (x.1:Int)<0)=false:=by
     unfold Zmp;rw [if_neg zO];split <;> rfl
    repeat (first|refine xR @dc ?_|exact xU @dc)
    refine At.of (q+1,r) ⟨by simp only;omega,by simp only;omega,b3,by simp only;omega,b5,fun x' hx' y' hy'=>?_,i2⟩ (by simp only;omega) rfl rfl (Nat.le_refl _) ?_ ?_
    ·simp only at hy' hx'
     rw [show nn-(q+1)-m=v from by omega] at hy'
     rw [show q+1-a=u+1 from by omega] at hx'
     have h1:=x1 x' hx'
     have h2:=y2 y' hy'
     omega
    ·(first|exact vT|refine vS ?_)
     try omega
    ·(first|exact vT|refine vS ?_)
  ·simp only [decide_eq_false_iff_not] at h
   obtain rfl:s=r:=zO
   obtain ⟨X1,hX1'⟩:∃ X1,X1=X.take (s-a):=⟨_,rfl⟩
   obtain ⟨X2,hX2'⟩:∃ X2,X2=X.drop (s-a):=⟨_,rfl⟩
   obtain ⟨Y1,hY1'⟩:∃ Y1,Y1=Y.take (nn-s-m):=⟨_,rfl⟩
   obtain ⟨Y2,hY2'⟩:∃ Y2,Y2=Y.drop (nn-s-m):=⟨_,rfl⟩
   rw [←hX1',←hY2'] at i1
   rw [←hY1',←hX2'] at i2
   have hXX:X=X1++X2:=by rw [hX1',hX2',List.take_append_drop]
   have hYY:Y=Y1++Y2:=by rw [hY1',hY2',List.take_append_drop]
   obtain ⟨e,he⟩:∃ e,e=nn-s:=⟨_,rfl⟩
   have l1:X1.length=s-a:=by rw [hX1',List.length_take];omega
   have l2:X2.length=m-s:=by rw [hX2',List.length_drop];omega
   have l3:Y1.length=e-m:=by rw [hY1',List.length_take];omega
   have l4:Y2.length=b-e:=by rw [hY2',List.length_drop];omega
   have eens:(nn:Int)-(s:Int)=(e:Int):=zO
   have hWl:W=Pf++(X1++(X2++(Y1++(Y2++Tl)))):=by rw [hW,hXX,hYY];simp
   have sX:=hX
   have sY:=hY
   rw [hXX] at sX
   rw [hYY] at sY
   have hcut:=Zo0 sX sY i1 i2
   rw [←hXX,←hYY] at hcut
   obtain ⟨sX1,sX2,_⟩:=List.pairwise_append.1 sX
   obtain ⟨sY1,sY2,_⟩:=List.pairwise_append.1 sY
   iterate 4 (first|refine xR @eens ?_|exact xU @eens)
   have lp:X1.length+Y1.length=mid-a:=zO
   have lq:X2.length+Y2.length=b-mid:=zO
   have hKK:=ZD7 (p:=X1.length+Y1.length) (q:=X2.length+Y2.length) zO zO
   rw [show X1.length+Y1.length+(X2.length+Y2.length)=n from by omega] at hKK
   obtain ⟨g1,hg1⟩:∃ g1,g1=1+(2+(X2.length+Y1.length)):=⟨_,rfl⟩
   refine SWp.toT (F:=mk 220 g1 [(0,.own 1000 0 (some 2) 0 N),(1,int a),(2,int m),(3,int b),(4,ZdE),(18,int mid),(20,int s),(24,int e)] [(1000,0,.row false (bC (Pf++(X1++(Y1++(X2++(Y2++Tl)))))))]) ?_ ?_
   ·by_cases ca:s<m
    ·have dA1:decide ((s:Int)<(m:Int))=true:=decide_eq_true zO
     by_cases cb:m<e
     ·have dA2:decide ((m:Int)<(e:Int))=true:=decide_eq_true zO
      have hrot:=Zjz (Pf++X1) X2 Y1 (Y2++Tl) N s m e (by rw [hN,hWl];simp) hl (by simp;omega) (by simp;omega) (by simp;omega) zO zO
      simp only [List.append_assoc] at hrot
      rw [←hWl] at hrot
      repeat (first|refine xR (ja2 @dA1 @dA2) ?_|exact xU (ja2 @dA1 @dA2))
      refine Zae [(1000,0)] 2000 hrot zB zB ?_ ?_ ?_
      iterate 2 (case _=>(first|exact vU BF4|refine vR BF4 ?_))
      repeat (first|refine xR @Zao ?_|exact xU @Zao)
      refine Zaj rfl ?_ ?_ ?_
      ·show 1+(2+(X2.length+Y1.length))≤g1
       omega
      iterate 2 (case _=>(first|exact vT|refine vS ?_))
     ·have dA2:decide ((m:Int)<(e:Int))=false:=decide_eq_false zO
      have hY0:Y1=[]:=List.eq_nil_of_length_eq_zero zO
      repeat (first|refine xR (ja2 @dA1 @dA2) ?_|exact xU (ja2 @dA1 @dA2))
      refine SWp.skip (Zaj rfl ?_ ?_ ?_)
      ·show 1≤g1
       omega
      iterate 2 (case _=>(first|exact vU (ja2 @hWl @hY0)|refine vR (ja2 @hWl @hY0) ?_))
    ·have dA1:decide ((s:Int)<(m:Int))=false:=decide_eq_false zO
     have hX0:X2=[]:=List.eq_nil_of_length_eq_zero zO
     repeat (first|refine xR @dA1 ?_|exact xU @dA1)
     refine SWp.skip (Zaj rfl ?_ ?_ ?_)
     ·show 1≤g1
      omega
     iterate 2 (case _=>(first|exact vU (ja2 @hWl @hX0)|refine vR (ja2 @hWl @hX0) ?_))
   obtain ⟨g2,hg2⟩:∃ g2,g2=g1+KM (X1.length+Y1.length):=⟨_,rfl⟩
   refine SWp.to (F:=mk 220 g2 [(0,.own 1000 0 (some 2) 0 N),(1,int a),(2,int m),(3,int b),(4,ZdE),(18,int mid),(20,int s),(24,int e)] [(1000,0,.row false (bC (Pf++(Zaw (X1++Y1)++(X2++(Y2++Tl))))))]) ?_ ?_
   ·by_cases ca:a<s
    ·have dB1:decide ((a:Int)<(s:Int))=true:=decide_eq_true zO
     by_cases cb:s<mid
     ·have dB2:decide ((s:Int)<(mid:Int))=true:=decide_eq_true zO
      have hrec:=ih (X1.length+Y1.length) zO Pf X1 Y1 (X2++(Y2++Tl)) N a s mid rfl (by rw [hN,hWl];simp;omega) hl ha zO zO zO zO sX1 sY1
      repeat (first|refine xR (ja2 @dB1 @dB2) ?_|exact xU (ja2 @dB1 @dB2))
      refine Zae [(1000,0)] 2000 hrec zB zB ?_ ?_ ?_
      iterate 2 (case _=>(first|exact vU BF4|refine vR BF4 ?_))
      repeat (first|refine xR @Zao ?_|exact xU @Zao)
      refine Zaj rfl ?_ ?_ ?_
      ·show g1+KM (X1.length+Y1.length)≤g2
       omega
      iterate 2 (case _=>(first|exact vT|refine vS ?_))
     ·have dB2:decide ((s:Int)<(mid:Int))=false:=decide_eq_false zO
      have hY0:Y1=[]:=List.eq_nil_of_length_eq_zero zO
      have hsx:=Ze2 sX1
      repeat (first|refine xR (ja2 @dB1 @dB2) ?_|exact xU (ja2 @dB1 @dB2))
      refine SWp.skip (Zaj rfl ?_ ?_ ?_)
      ·show g1≤g2
       omega
      iterate 2 (case _=>(first|exact vU (ja3 @hY0 @hsx @List.append_nil.{0})|refine vR (ja3 @hY0 @hsx @List.append_nil.{0}) ?_))
    ·have dB1:decide ((a:Int)<(s:Int))=false:=decide_eq_false zO
     have hX0:X1=[]:=List.eq_nil_of_length_eq_zero zO
     have hsy:=Ze2 sY1
     repeat (first|refine xR @dB1 ?_|exact xU @dB1)
     refine SWp.skip (Zaj rfl ?_ ?_ ?_)
     ·show g1≤g2
      omega
     iterate 2 (case _=>(first|exact vU (ja3 @hX0 @hsy @List.nil_append.{0})|refine vR (ja3 @hX0 @hsy @List.nil_append.{0}) ?_))
   have hfin:Pf++(Zaw (X1++Y1)++(Zaw (X2++Y2)++Tl))=Pf++(Zaw (X++Y)++Tl):=by rw [hcut];simp
   by_cases ca:mid<e
   ·have dC1:decide ((mid:Int)<(e:Int))=true:=decide_eq_true zO
    by_cases cb:e<b
    ·have dC2:decide ((e:Int)<(b:Int))=true:=decide_eq_true zO
     have hrec:=ih (X2.length+Y2.length) zO (Pf++Zaw (X1++Y1)) X2 Y2 Tl N mid e b rfl (by rw [hN,hWl];simp [Zap];omega) hl (by simp [Zap];omega) (by simp [Zap];omega) zO zO zO sX2 sY2
     simp only [List.append_assoc] at hrec
     rw [hfin] at hrec
     repeat (first|refine xR (ja2 @dC1 @dC2) ?_|exact xU (ja2 @dC1 @dC2))
     refine Zae [(1000,0)] 2000 hrec zB zB ?_ ?_ ?_
     iterate 2 (case _=>(first|exact vU BF4|refine vR BF4 ?_))
     repeat (first|refine xR (ja2 @Zao @ZaC) ?_|exact xU (ja2 @Zao @ZaC))
     omega
    ·have dC2:decide ((e:Int)<(b:Int))=false:=decide_eq_false zO
     have hY0:Y2=[]:=List.eq_nil_of_length_eq_zero zO
     have hsx:=Ze2 sX2
     have hg:g2≤KM n:=zO
     rw [hY0,List.append_nil,hsx] at hfin
     repeat (first|refine xR (ja7 @dC1 @dC2 @ZaC @hY0 @List.nil_append.{0} @hfin @hg) ?_|exact xU (ja7 @dC1 @dC2 @ZaC @hY0 @List.nil_append.{0} @hfin @hg))
   ·have dC1:decide ((mid:Int)<(e:Int))=false:=decide_eq_false zO
    have hX0:X2=[]:=List.eq_nil_of_length_eq_zero zO
    have hsy:=Ze2 sY2
    have hg:g2≤KM n:=zO
    rw [hX0,List.nil_append,hsy] at hfin
    repeat (first|refine xR (ja6 @dC1 @ZaC @hX0 @List.nil_append.{0} @hfin @hg) ?_|exact xU (ja6 @dC1 @ZaC @hX0 @List.nil_append.{0} @hfin @hg))
 ·have dm:decide ((m:Int)>(mid:Int))=false:=decide_eq_false zO
  obtain ⟨s0,hs0⟩:∃ s0,s0=a:=⟨_,rfl⟩
  obtain ⟨r0,hr0⟩:∃ r0,r0=m:=⟨_,rfl⟩
  have b1:a≤s0:=zO
  have b2:s0≤r0:=zO
  have b3:r0≤m:=zO
  have b4:nn-s0≤b:=zO
  have b5:m≤nn-r0:=zO
  have i1:∀ x∈X.take (s0-a),∀ y∈Y.drop (nn-s0-m),x.1≤y.1:=fun x hx=>by
   rw [show s0-a=0 from by omega] at hx;simp at hx
  have i2:∀ y∈Y.take (nn-r0-m),∀ x∈X.drop (r0-a),y.1<x.1:=fun y _ x hx=>by
   rw [List.drop_of_length_le zO] at hx;simp at hx
  repeat (first|refine xR (ja6 @d0 @d00 @emid @enn @dm @epp) ?_|exact xU (ja6 @d0 @d00 @emid @enn @dm @epp))
  refine SWp.loop (α:=Nat × Nat) (fun p=>mk 220 1 [(0,.own 1000 0 (some 2) 0 N),(1,int a),(2,int m),(3,int b),(4,ZdE),(18,int mid),(19,int nn),(20,int p.1),(21,int p.2),(22,int pp)] [(1000,0,.row false (bC W))])
   (fun p=>a≤p.1∧p.1≤p.2∧p.2≤m∧nn-p.1≤b∧m≤nn-p.2∧(∀ x∈X.take (p.1-a),∀ y∈Y.drop (nn-p.1-m),x.1≤y.1)∧(∀ y∈Y.take (nn-p.2-m),∀ x∈X.drop (p.2-a),y.1<x.1)) (fun p=>p.2-p.1) (s0,r0) ⟨b1,b2,b3,b4,b5,i1,i2⟩ (Zaj rfl ?_ ?_ ?_) ?_
  ·exact Nat.le_refl _
  iterate 2 (case _=>(first|exact vU (ja2 @hs0 @hr0)|refine vR (ja2 @hs0 @hr0) ?_))
  clear i1 i2 b1 b2 b3 b4 b5
  rintro ⟨s,r⟩ ⟨b1,b2,b3,b4,b5,i1,i2⟩ -
  simp only at b1 b2 b3 b4 b5 i1 i2
  repeat (first|refine xS ?_|exact xT)
  refine SWp.cond rfl (fun h=>?_) (fun h=>?_)
  ·simp only [decide_eq_true_eq] at h
   obtain ⟨q,hq⟩:∃ q,q=(s+r) / 2:=⟨_,rfl⟩
   obtain ⟨e,he⟩:∃ e,e=pp-q:=⟨_,rfl⟩
   have eq1:IntKind.i64.wrap ((IntKind.u64.wrap ((s:Int)+(r:Int))).fdiv (2^1))=(q:Int):=by
    rw [Zbg zO zO,show ((2:Int)^1)=2 from rfl,Int.fdiv_eq_ediv_of_nonneg _ zO,Zcn zO zO]
    omega
   have eq2:(pp:Int)-(q:Int)=(e:Int):=zO
   obtain ⟨u,hu⟩:∃ u,u=q-a:=⟨_,rfl⟩
   obtain ⟨v,hv⟩:∃ v,v=e-m:=⟨_,rfl⟩
   have huX:u<X.length:=zO
   have hvY:v<Y.length:=zO
   have hql:q<W.length:=zO
   have hel:e<W.length:=zO
   have e1:=Zdq hql
   have e2:=Zdq hel
   have g1:W.getD q (0,[])=X.getD u (0,[]):=by
    rw [hW]
    simp only [List.getD]
    rw [List.getElem?_append_right zO,show q-Pf.length=u from by omega,List.getElem?_append_left huX]
   have g2:W.getD e (0,[])=Y.getD v (0,[]):=by
    rw [hW]
    simp only [List.getD]
    rw [List.getElem?_append_right zO,List.getElem?_append_right zO,show e-Pf.length-X.length=v from by omega,List.getElem?_append_left hvY]
   obtain ⟨x,hx⟩:∃ x,x=X.getD u (0,[]):=⟨_,rfl⟩
   obtain ⟨y,hy⟩:∃ y,y=Y.getD v (0,[]):=⟨_,rfl⟩
   rw [g1,←hx] at e1
   rw [g2,←hy] at e2
   have e3:(bC W).length=N*2:=by rw [Za8,hN]
   have heN:e*2+2≤N*2:=zO
   have hqN:q*2+2≤N*2:=zO
   have x1:=ZjR hX huX
   have x2:=ZjS hX huX
   have y1:=ZjR hY hvY
   have y2:=ZjS hY hvY
   rw [←hx] at x1 x2
   rw [←hy] at y1 y2
   repeat (first|refine xR (ja5 @eq1 @eq2 @e1 @e2 @e3) ?_|exact xU (ja5 @eq1 @eq2 @e1 @e2 @e3))
   refine Zsl Zby rfl (by decide) ?_
   refine Zaz _ (.inl ⟨by simp only [AV.free,AV.free.freeL,nA,Zaa,Bool.and_self],ZdC (y.1:Int) (x.1:Int) _ _ (by simp only [AV.free,Zaa]) (by simp only [AV.free,Zaa])⟩) ?_
   by_cases c:y.1<x.1
   ·have dc:decide (Zmp (y.1:Int) (x.1:Int)<0)=true:=by
     unfold Zmp;rw [if_pos zO];rfl
    repeat (first|refine xR @dc ?_|exact xU @dc)
    refine At.of (s,q) ⟨b1,by simp only;omega,by simp only;omega,b4,by simp only;omega,i1,fun y' hy' x' hx'=>?_⟩ (by simp only;omega) rfl rfl (Nat.le_refl _) ?_ ?_
    ·simp only at hy' hx'
     rw [show nn-q-m=v+1 from by omega] at hy'
     rw [show q-a=u from by omega] at hx'
     have h1:=y1 y' hy'
     have h2:=x2 x' hx'
     omega
    ·(first|exact vT|refine vS ?_)
     try omega
    ·(first|exact vT|refine vS ?_)
   ·have dc:decide (Zmp (y.1:Int) (x.1:Int)<0)=false:=by
     unfold Zmp;rw [if_neg zO];split <;> rfl
    repeat (first|refine xR @dc ?_|exact xU @dc)
    refine At.of (q+1,r) ⟨by simp only;omega,by simp only;omega,b3,by simp only;omega,b5,fun x' hx' y' hy'=>?_,i2⟩ (by simp only;omega) rfl rfl (Nat.le_refl _) ?_ ?_
    ·simp only at hy' hx'
     rw [show nn-(q+1)-m=v from by omega] at hy'
     rw [show q+1-a=u+1 from by omega] at hx'
     have h1:=x1 x' hx'
     have h2:=y2 y' hy'
     omega
    ·(first|exact vT|refine vS ?_)
     try omega
    ·(first|exact vT|refine vS ?_)
  ·simp only [decide_eq_false_iff_not] at h
   obtain rfl:s=r:=zO
   obtain ⟨X1,hX1'⟩:∃ X1,X1=X.take (s-a):=⟨_,rfl⟩
   obtain ⟨X2,hX2'⟩:∃ X2,X2=X.drop (s-a):=⟨_,rfl⟩
   obtain ⟨Y1,hY1'⟩:∃ Y1,Y1=Y.take (nn-s-m):=⟨_,rfl⟩
   obtain ⟨Y2,hY2'⟩:∃ Y2,Y2=Y.drop (nn-s-m):=⟨_,rfl⟩
   rw [←hX1',←hY2'] at i1
   rw [←hY1',←hX2'] at i2
   have hXX:X=X1++X2:=by rw [hX1',hX2',List.take_append_drop]
   have hYY:Y=Y1++Y2:=by rw [hY1',hY2',List.take_append_drop]
   obtain ⟨e,he⟩:∃ e,e=nn-s:=⟨_,rfl⟩
   have l1:X1.length=s-a:=by rw [hX1',List.length_take];omega
   have l2:X2.length=m-s:=by rw [hX2',List.length_drop];omega
   have l3:Y1.length=e-m:=by rw [hY1',List.length_take];omega
   have l4:Y2.length=b-e:=by rw [hY2',List.length_drop];omega
   have eens:(nn:Int)-(s:Int)=(e:Int):=zO
   have hWl:W=Pf++(X1++(X2++(Y1++(Y2++Tl)))):=by rw [hW,hXX,hYY];simp
   have sX:=hX
   have sY:=hY
   rw [hXX] at sX
   rw [hYY] at sY
   have hcut:=Zo0 sX sY i1 i2
   rw [←hXX,←hYY] at hcut
   obtain ⟨sX1,sX2,_⟩:=List.pairwise_append.1 sX
   obtain ⟨sY1,sY2,_⟩:=List.pairwise_append.1 sY
   iterate 4 (first|refine xR @eens ?_|exact xU @eens)
   have lp:X1.length+Y1.length=mid-a:=zO
   have lq:X2.length+Y2.length=b-mid:=zO
   have hKK:=ZD7 (p:=X1.length+Y1.length) (q:=X2.length+Y2.length) zO zO
   rw [show X1.length+Y1.length+(X2.length+Y2.length)=n from by omega] at hKK
   obtain ⟨g1,hg1⟩:∃ g1,g1=1+(2+(X2.length+Y1.length)):=⟨_,rfl⟩
   refine SWp.toT (F:=mk 220 g1 [(0,.own 1000 0 (some 2) 0 N),(1,int a),(2,int m),(3,int b),(4,ZdE),(18,int mid),(20,int s),(24,int e)] [(1000,0,.row false (bC (Pf++(X1++(Y1++(X2++(Y2++Tl)))))))]) ?_ ?_
   ·by_cases ca:s<m
    ·have dA1:decide ((s:Int)<(m:Int))=true:=decide_eq_true zO
     by_cases cb:m<e
     ·have dA2:decide ((m:Int)<(e:Int))=true:=decide_eq_true zO
      have hrot:=Zjz (Pf++X1) X2 Y1 (Y2++Tl) N s m e (by rw [hN,hWl];simp) hl (by simp;omega) (by simp;omega) (by simp;omega) zO zO
      simp only [List.append_assoc] at hrot
      rw [←hWl] at hrot
      repeat (first|refine xR (ja2 @dA1 @dA2) ?_|exact xU (ja2 @dA1 @dA2))
      refine Zae [(1000,0)] 2000 hrot zB zB ?_ ?_ ?_
      iterate 2 (case _=>(first|exact vU BF4|refine vR BF4 ?_))
      repeat (first|refine xR @Zao ?_|exact xU @Zao)
      refine Zaj rfl ?_ ?_ ?_
      ·show 1+(2+(X2.length+Y1.length))≤g1
       omega
      iterate 2 (case _=>(first|exact vT|refine vS ?_))
     ·have dA2:decide ((m:Int)<(e:Int))=false:=decide_eq_false zO
      have hY0:Y1=[]:=List.eq_nil_of_length_eq_zero zO
      repeat (first|refine xR (ja2 @dA1 @dA2) ?_|exact xU (ja2 @dA1 @dA2))
      refine SWp.skip (Zaj rfl ?_ ?_ ?_)
      ·show 1≤g1
       omega
      iterate 2 (case _=>(first|exact vU (ja2 @hWl @hY0)|refine vR (ja2 @hWl @hY0) ?_))
    ·have dA1:decide ((s:Int)<(m:Int))=false:=decide_eq_false zO
     have hX0:X2=[]:=List.eq_nil_of_length_eq_zero zO
     repeat (first|refine xR @dA1 ?_|exact xU @dA1)
     refine SWp.skip (Zaj rfl ?_ ?_ ?_)
     ·show 1≤g1
      omega
     iterate 2 (case _=>(first|exact vU (ja2 @hWl @hX0)|refine vR (ja2 @hWl @hX0) ?_))
   obtain ⟨g2,hg2⟩:∃ g2,g2=g1+KM (X1.length+Y1.length):=⟨_,rfl⟩
   refine SWp.to (F:=mk 220 g2 [(0,.own 1000 0 (some 2) 0 N),(1,int a),(2,int m),(3,int b),(4,ZdE),(18,int mid),(20,int s),(24,int e)] [(1000,0,.row false (bC (Pf++(Zaw (X1++Y1)++(X2++(Y2++Tl))))))]) ?_ ?_
   ·by_cases ca:a<s
    ·have dB1:decide ((a:Int)<(s:Int))=true:=decide_eq_true zO
     by_cases cb:s<mid
     ·have dB2:decide ((s:Int)<(mid:Int))=true:=decide_eq_true zO
      have hrec:=ih (X1.length+Y1.length) zO Pf X1 Y1 (X2++(Y2++Tl)) N a s mid rfl (by rw [hN,hWl];simp;omega) hl ha zO zO zO zO sX1 sY1
      repeat (first|refine xR (ja2 @dB1 @dB2) ?_|exact xU (ja2 @dB1 @dB2))
      refine Zae [(1000,0)] 2000 hrec zB zB ?_ ?_ ?_
      iterate 2 (case _=>(first|exact vU BF4|refine vR BF4 ?_))
      repeat (first|refine xR @Zao ?_|exact xU @Zao)
      refine Zaj rfl ?_ ?_ ?_
      ·show g1+KM (X1.length+Y1.length)≤g2
       omega
      iterate 2 (case _=>(first|exact vT|refine vS ?_))
     ·have dB2:decide ((s:Int)<(mid:Int))=false:=decide_eq_false zO
      have hY0:Y1=[]:=List.eq_nil_of_length_eq_zero zO
      have hsx:=Ze2 sX1
      repeat (first|refine xR (ja2 @dB1 @dB2) ?_|exact xU (ja2 @dB1 @dB2))
      refine SWp.skip (Zaj rfl ?_ ?_ ?_)
      ·show g1≤g2
       omega
      iterate 2 (case _=>(first|exact vU (ja3 @hY0 @hsx @List.append_nil.{0})|refine vR (ja3 @hY0 @hsx @List.append_nil.{0}) ?_))
    ·have dB1:decide ((a:Int)<(s:Int))=false:=decide_eq_false zO
     have hX0:X1=[]:=List.eq_nil_of_length_eq_zero zO
     have hsy:=Ze2 sY1
     repeat (first|refine xR @dB1 ?_|exact xU @dB1)
     refine SWp.skip (Zaj rfl ?_ ?_ ?_)
     ·show g1≤g2
      omega
     iterate 2 (case _=>(first|exact vU (ja3 @hX0 @hsy @List.nil_append.{0})|refine vR (ja3 @hX0 @hsy @List.nil_append.{0}) ?_))
   have hfin:Pf++(Zaw (X1++Y1)++(Zaw (X2++Y2)++Tl))=Pf++(Zaw (X++Y)++Tl):=by rw [hcut];simp
   by_cases ca:mid<e
   ·have dC1:decide ((mid:Int)<(e:Int))=true:=decide_eq_true zO
    by_cases cb:e<b
    ·have dC2:decide ((e:Int)<(b:Int))=true:=decide_eq_true zO
     have hrec:=ih (X2.length+Y2.length) zO (Pf++Zaw (X1++Y1)) X2 Y2 Tl N mid e b rfl (by rw [hN,hWl];simp [Zap];omega) hl (by simp [Zap];omega) (by simp [Zap];omega) zO zO zO sX2 sY2
     simp only [List.append_assoc] at hrec
     rw [hfin] at hrec
     repeat (first|refine xR (ja2 @dC1 @dC2) ?_|exact xU (ja2 @dC1 @dC2))
     refine Zae [(1000,0)] 2000 hrec zB zB ?_ ?_ ?_
     iterate 2 (case _=>(first|exact vU BF4|refine vR BF4 ?_))
     repeat (first|refine xR (ja2 @Zao @ZaC) ?_|exact xU (ja2 @Zao @ZaC))
     omega
    ·have dC2:decide ((e:Int)<(b:Int))=false:=decide_eq_false zO
     have hY0:Y2=[]:=List.eq_nil_of_length_eq_zero zO
     have hsx:=Ze2 sX2
     have hg:g2≤KM n:=zO
     rw [hY0,List.append_nil,hsx] at hfin
     repeat (first|refine xR (ja7 @dC1 @dC2 @ZaC @hY0 @List.nil_append.{0} @hfin @hg) ?_|exact xU (ja7 @dC1 @dC2 @ZaC @hY0 @List.nil_append.{0} @hfin @hg))
   ·have dC1:decide ((mid:Int)<(e:Int))=false:=decide_eq_false zO
    have hX0:X2=[]:=List.eq_nil_of_length_eq_zero zO
    have hsy:=Ze2 sY2
    have hg:g2≤KM n:=zO
    rw [hX0,List.nil_append,hsy] at hfin
    repeat (first|refine xR (ja6 @dC1 @ZaC @hX0 @List.nil_append.{0} @hfin @hg) ?_|exact xU (ja6 @dC1 @ZaC @hX0 @List.nil_append.{0} @hfin @hg))
inductive BkT (w:Nat):List Bt→Prop
 | last (S:List Bt):S.length≤w→Srt S→BkT w S
 | cons (S T:List Bt):S.length=w→Srt S→BkT w T→BkT w (S++T)
inductive BkP (w:Nat):List Bt→Prop
 | nil:BkP w []
 | snoc (P S:List Bt):BkP w P→S.length=w→Srt S→BkP w (P++S)
theorem ZuR {w:Nat} {P:List Bt} (h:BkP w P):∀ {T:List Bt},BkT w T→BkT w (P++T):=by
 induction h with
 | nil=>intro T hT;exact hT
 | snoc P S hP hS hs ih=>intro T hT;rw [List.append_assoc];exact ih (.cons S T hS hs hT)
theorem ZAl {w:Nat} {T:List Bt} (h:BkT w T) (hl:T.length≤w):Srt T:=by
 cases h with
 | last _ h1 h2=>exact h2
 | cons S T h1 h2 h3 =>
  have:T=[]:=List.length_eq_zero_iff.1 (by rw [List.length_append] at hl;omega)
  subst this
  rw [List.append_nil];exact h2
theorem ZHu {w:Nat} (hw:1≤w) {T:List Bt} (h:BkT w T) (hl:2*w≤T.length):∃ X Y T',T=X++(Y++T')∧X.length=w∧Y.length=w∧Srt X∧Srt Y∧BkT w T':=by
 cases h with
 | last _ h1 h2=>omega
 | cons S T h1 h2 h3 =>
  rw [List.length_append] at hl
  cases h3 with
  | last _ h4 h5=>exact ⟨S,T,[],by simp,h1,by omega,h2,h5,.last [] zB List.Pairwise.nil⟩
  | cons S' T' h4 h5 h6=>exact ⟨S,S',T',rfl,h1,h4,h2,h5,h6⟩
theorem ZFR {w:Nat} {T:List Bt} (h:BkT w T) (hl:w<T.length) (hl2:T.length<2*w):∃ X Y,T=X++Y∧X.length=w∧1≤Y.length∧Srt X∧Srt Y:=by
 cases h with
 | last _ h1 h2=>omega
 | cons S T h1 h2 h3 =>
  rw [List.length_append] at hl hl2
  exact ⟨S,T,rfl,h1,by omega,h2,ZAl h3 zO⟩
theorem ZjT {P S T:List Bt}:Zaw (P++(Zaw S++T))=Zaw (P++(S++T)):=by
 refine Zn8 (ZcZ _) fun c=>?_
 rw [Zd3]
 simp only [List.filter_append,Zd3]
def KS (N:Nat):Nat:=N+5+KM N*(2*N+20)
theorem ZHv {n N:Nat} (h:n≤N):KM n≤10*N*n:=by
 unfold KM
 exact Nat.mul_le_mul_right n zO
set_option maxHeartbeats 1000000 in
theorem Zo2 [Tabs Tryz.prog] (l:List Bt) (N:Nat) (hN:N=l.length) (hl:N≤10000) :
  HCon Tryz.prog Zce [.own 1000 0 (some 2) 0 N,int N,ZdE] [.row false (bC l)] (.tup []) [(1000,0,.row false (bC (Zaw l)))] (KS N):=by
 refine HCon.of' mix Tryz.func151 rfl Tryz.ntmps151 Zet Zeu zB (by simp only [AV.gl.glL,AV.gl,int,ZdE,and_true];omega) Zs0 ?_
 unfold Zcf
 repeat (first|refine zS ?_|exact zT)
 refine SWp.loop (α:=List Bt × List Bt) (fun x=>mk 63 (1+x.1.length) [(0,.own 1000 0 (some 2) 0 N),(1,int N),(2,ZdE),(6,int 20),(7,int (x.1.length:Nat)),(8,int (x.1.length+20:Nat))] [(1000,0,.row false (bC (x.1++x.2)))])
  (fun x=>BkP 20 x.1∧Zaw (x.1++x.2)=Zaw l∧x.1.length+x.2.length=N) (fun x=>x.2.length) ([],l) ⟨.nil,rfl,by simp [hN]⟩ (Zaj rfl ?_ ?_ ?_) ?_
 ·exact Nat.le_refl _
 iterate 2 (case _=>(first|exact yT|refine yS ?_))
 rintro ⟨P,T⟩ ⟨hP,hS,hlen⟩ -
 simp only at hP hS hlen
 obtain ⟨a,ha⟩:∃ a,a=P.length:=⟨_,rfl⟩
 obtain ⟨b,hb⟩:∃ b,b=a+20:=⟨_,rfl⟩
 rw [←ha,←hb]
 by_cases c:b≤N
 ·have d:decide ((b:Int)≤(N:Int))=true:=decide_eq_true zO
  obtain ⟨X,T',rfl,hX⟩:∃ X T',T=X++T'∧X.length=20:=⟨T.take 20,T.drop 20,(List.take_append_drop 20 T).symm,by rw [List.length_take];omega⟩
  rw [List.length_append] at hlen
  have hc:=ZeI P X T' N a b (by simp only [List.length_append];omega) zO ha zO
  obtain ⟨b2,hb2⟩:∃ b2,b2=b+20:=⟨_,rfl⟩
  have eb:(b:Int)+20=(b2:Int):=zO
  have hPl:(P++Zaw X).length=b:=by rw [List.length_append,Zap];omega
  repeat (first|refine zR @d ?_|exact zU @d)
  refine Zae [(1000,0)] 2000 hc zB zB ?_ ?_ ?_
  iterate 2 (case _=>(first|exact yU BF4|refine yR BF4 ?_))
  repeat (first|refine zR (ja2 @Zao @eb) ?_|exact zU (ja2 @Zao @eb))
  refine At.of (P++Zaw X,T') ⟨.snoc P _ hP (by rw [Zap];exact hX) (ZcZ _),?_,?_⟩ ?_ rfl rfl ?_ ?_ ?_
  ·simp only
   rw [List.append_assoc,ZjT,hS]
  ·simp only
   rw [hPl];omega
  ·simp only [List.length_append];omega
  ·simp only
   rw [hPl];omega
  ·have e2:(((P++Zaw X).length+20:Nat):Int)=(b2:Int):=by rw [hPl];omega
   simp only [e2,hPl]
   (first|exact yT|refine yS ?_)
   omega
  ·(first|exact yT|refine yS ?_)
 ·have d:decide ((b:Int)≤(N:Int))=false:=decide_eq_false zO
  have hc:=ZeI P T [] N a N (by simp only [List.length_append,List.length_nil];omega) zO ha zO
  rw [List.append_nil,List.append_nil] at hc
  repeat (first|refine zR @d ?_|exact zU @d)
  refine Zae [(1000,0)] 2000 hc zB zB ?_ ?_ ?_
  iterate 2 (case _=>(first|exact yU BF4|refine yR BF4 ?_))
  repeat (first|refine zR @Zao ?_|exact zU @Zao)
  refine SWp.loop (α:=List Bt × Nat) (fun x=>mk 63 (N+3+KM N*x.2) [(0,.own 1000 0 (some 2) 0 N),(1,int N),(2,ZdE),(6,int (x.2:Nat))] [(1000,0,.row false (bC x.1))])
   (fun x=>BkT x.2 x.1∧Zaw x.1=Zaw l∧x.1.length=N∧1≤x.2∧x.2≤2*N+20) (fun x=>N-x.2) (P++Zaw T,20) ⟨ZuR hP (.last _ (by rw [Zap];omega) (ZcZ _)),?_,?_,by simp,by simp⟩ (Zaj rfl ?_ ?_ ?_) ?_
  ·have:=ZjT (P:=P) (S:=T) (T:=[])
   rw [List.append_nil,List.append_nil] at this
   simp only
   rw [this,hS]
  ·simp only [List.length_append,Zap];omega
  ·show 1+a+1≤N+3+KM N*20
   omega
  iterate 2 (case _=>(first|exact yU @Zao|refine yR @Zao ?_))
  clear hc hS hP hlen d c
  rintro ⟨R,w⟩ ⟨hB,hSo,hRl,hw1,hw2⟩ -
  simp only at hB hSo hRl hw1 hw2
  by_cases cw:w<N
  ·have d:decide ((w:Int)<(N:Int))=true:=decide_eq_true zO
   obtain ⟨w2,hw2e⟩:∃ w2,w2=2*w:=⟨_,rfl⟩
   have ew:2*(w:Int)=(w2:Int):=zO
   have ew':(w:Int)*2=(w2:Int):=zO
   have fN:KM N*w2=KM N*w+KM N*w:=by rw [hw2e,←Nat.mul_assoc,Nat.mul_comm (KM N) 2,Nat.mul_assoc];omega
   have fw:KM N≤KM N*w:=Nat.le_mul_of_pos_right _ zO
   repeat (first|refine zR (ja2 @d @ew) ?_|exact zU (ja2 @d @ew))
   refine SWp.loop (α:=List Bt × List Bt) (fun x=>mk 63 (N+3+KM N*w+10*N*x.1.length) [(0,.own 1000 0 (some 2) 0 N),(1,int N),(2,ZdE),(6,int w),(7,int (x.1.length:Nat)),(8,int (x.1.length+w2:Nat))] [(1000,0,.row false (bC (x.1++x.2)))])
    (fun x=>BkP w2 x.1∧BkT w x.2∧Zaw (x.1++x.2)=Zaw l∧x.1.length+x.2.length=N) (fun x=>x.2.length) ([],R) ⟨.nil,hB,hSo,by simp [hRl]⟩ (Zaj rfl ?_ ?_ ?_) ?_
   ·exact Nat.le_refl _
   iterate 2 (case _=>(first|exact yT|refine yS ?_))
   rintro ⟨P2,T2⟩ ⟨hP2,hT2,hS2,hl2⟩ -
   simp only at hP2 hT2 hS2 hl2
   obtain ⟨a2,ha2⟩:∃ a2,a2=P2.length:=⟨_,rfl⟩
   obtain ⟨b2,hb2⟩:∃ b2,b2=a2+w2:=⟨_,rfl⟩
   obtain ⟨mid,hmid⟩:∃ mid,mid=a2+w:=⟨_,rfl⟩
   have em:(a2:Int)+(w:Int)=(mid:Int):=zO
   rw [←ha2,←hb2]
   by_cases cb:b2≤N
   ·have d2:decide ((b2:Int)≤(N:Int))=true:=decide_eq_true zO
    obtain ⟨X,Y,T',rfl,hX,hY,hXs,hYs,hT'⟩:=ZHu hw1 hT2 zO
    simp only [List.length_append] at hl2
    have hc:=Zh5 w2 P2 X Y T' N a2 mid b2 zO (by simp only [List.length_append];omega) zO ha2 zO zO zO zO hXs hYs
    obtain ⟨b3,hb3⟩:∃ b3,b3=b2+w2:=⟨_,rfl⟩
    have eb:(b2:Int)+(w2:Int)=(b3:Int):=zO
    have hPl:(P2++Zaw (X++Y)).length=b2:=by simp only [List.length_append,Zap];omega
    have f1:10*N*b2=10*N*a2+10*N*w2:=by rw [hb2,Nat.mul_add]
    have f2:KM w2≤10*N*w2:=ZHv zO
    repeat (first|refine zR (ja2 @d2 @em) ?_|exact zU (ja2 @d2 @em))
    refine Zae [(1000,0)] 2000 hc zB zB ?_ ?_ ?_
    iterate 2 (case _=>(first|exact yU BF4|refine yR BF4 ?_))
    repeat (first|refine zR (ja3 @Zao @ew @eb) ?_|exact zU (ja3 @Zao @ew @eb))
    refine At.of (P2++Zaw (X++Y),T') ⟨.snoc P2 _ hP2 (by rw [Zap,List.length_append];omega) (ZcZ _),hT',?_,?_⟩ ?_ rfl rfl ?_ ?_ ?_
    ·simp only
     rw [List.append_assoc,ZjT,←hS2,List.append_assoc]
    ·simp only
     rw [hPl];omega
    ·simp only [List.length_append];omega
    ·simp only
     rw [hPl];omega
    ·have e2:(((P2++Zaw (X++Y)).length+w2:Nat):Int)=(b3:Int):=by rw [hPl];omega
     simp only [e2,hPl]
     (first|exact yT|refine yS ?_)
     omega
    ·(first|exact yT|refine yS ?_)
   ·have d2:decide ((b2:Int)≤(N:Int))=false:=decide_eq_false zO
    have hKN:KM N=10*N*a2+10*N*(N-a2):=by
     rw [←Nat.mul_add,show a2+(N-a2)=N by omega];rfl
    by_cases cm:mid<N
    ·have d3:decide ((mid:Int)<(N:Int))=true:=decide_eq_true zO
     obtain ⟨X,Y,rfl,hX,hY,hXs,hYs⟩:=ZFR hT2 zO zO
     simp only [List.length_append] at hl2
     have hc:=Zh5 (N-a2) P2 X Y [] N a2 mid N zO (by simp only [List.length_append,List.length_nil];omega) zO ha2 zO zO zO hY hXs hYs
     rw [List.append_nil,List.append_nil] at hc
     have f2:KM (N-a2)≤10*N*(N-a2):=ZHv zO
     repeat (first|refine zR (ja3 @d2 @em @d3) ?_|exact zU (ja3 @d2 @em @d3))
     refine Zae [(1000,0)] 2000 hc zB zB ?_ ?_ ?_
     iterate 2 (case _=>(first|exact yU BF4|refine yR BF4 ?_))
     repeat (first|refine zR (ja2 @Zao @ew') ?_|exact zU (ja2 @Zao @ew'))
     refine At.of (P2++Zaw (X++Y),w2) ⟨ZuR hP2 (.last _ (by rw [Zap,List.length_append];omega) (ZcZ _)),?_,?_,by simp only;omega,by simp only;omega⟩ (by simp only;omega) rfl rfl ?_ ?_ ?_
     ·have:=ZjT (P:=P2) (S:=X++Y) (T:=[])
      rw [List.append_nil,List.append_nil] at this
      simp only
      rw [this,hS2]
     ·simp only [List.length_append,Zap];omega
     ·simp only;omega
     iterate 2 (case _=>(first|exact yT|refine yS ?_))
    ·have d3:decide ((mid:Int)<(N:Int))=false:=decide_eq_false zO
     repeat (first|refine zR (ja4 @d2 @em @d3 @ew') ?_|exact zU (ja4 @d2 @em @d3 @ew'))
     refine At.of (P2++T2,w2) ⟨ZuR hP2 (.last _ zO (ZAl hT2 zO)),hS2,?_,by simp only;omega,by simp only;omega⟩ (by simp only;omega) rfl rfl ?_ ?_ ?_
     ·simp only [List.length_append];omega
     ·simp only;omega
     iterate 2 (case _=>(first|exact yT|refine yS ?_))
  ·have d:decide ((w:Int)<(N:Int))=false:=decide_eq_false zO
   have hR:Zaw l=R:=by rw [←hSo];exact Ze2 (ZAl hB zO)
   have f:KM N*w≤KM N*(2*N+20):=Nat.mul_le_mul_left _ hw2
   rw [hR]
   repeat (first|refine zR (ja2 @d @ZaC) ?_|exact zU (ja2 @d @ZaC))
   all_goals (simp only [KS];omega)
def prs:List Bt→List Bt
 | p::q::r=>(p.1+q.1,p.2++q.2)::prs r
 | _=>[]
def prK (l:List Bt) (k:Nat):List Bt:=(List.range k).map fun j=>((l.getD (2*j) (0,[])).1+(l.getD (2*j+1) (0,[])).1,(l.getD (2*j) (0,[])).2++(l.getD (2*j+1) (0,[])).2)
theorem ZDo {l:List Bt} {k:Nat}:prK l (k+1)=prK l k++[((l.getD (2*k) (0,[])).1+(l.getD (2*k+1) (0,[])).1,(l.getD (2*k) (0,[])).2++(l.getD (2*k+1) (0,[])).2)]:=by
 simp [prK,List.range_succ]
theorem ZjU {l:List Bt} {k:Nat}:(prK l k).length=k:=by simp [prK]
theorem ZuS {l:List Bt} {i:Nat} (h:i<l.length):(l.map bA).getD i .junk = .agg [nA (l.getD i (0,[])).1,.sl false none ((l.getD i (0,[])).2.map nA)]:=by
 simp [List.getD,List.getElem?_eq_getElem h,bA]
theorem Zl8:∀ {l:List Bt},chunks (some 2) l.length (bC l)=l.map bA
 | []=>rfl
 | p::l=>by
  simp only [List.length_cons,Zm1,chunks,esz] at *
  have:=Zl8 (l:=l)
  simp [this,bA,chunks]
theorem Zs7 [Tabs Tryz.prog] (nl:Bool) (l:List Bt) (hl:l.length≤10000) (hs:∀ p∈l,p.1≤1000000000000000∧0<p.2.length∧p.2.length≤50000) :
  Con Tryz.prog Znn [.sl nl (some 2) (l.map bA)] (.sl (nl0 (l.length / 2)) (some 2) ((prK l (l.length / 2)).map bA)):=by
 refine Con.of' mix Tryz.func150 rfl Tryz.ntmps150 ZsC ZsD zB (by simp only [AV.free,AV.free.freeL,Zjy,Bool.and_self]) (by simp only [AV.free,Zjy]) ?_
 unfold Znt
 iterate 4 (first|refine zS ?_|exact zT)
 refine SWp.adopt 3 (some 2) yT ?_
 repeat (first|refine zS ?_|exact zT)
 refine SWp.loop (α:=Nat) (fun k=>mk 38 (3*k+1) [(0,.sl nl (some 2) (l.map bA)),(3,.own 3 (3*k) (some 2) 0 k),(4,int (2*k+1:Nat))] [(3,3*k,.row (nl0 k) (bC (prK l k)))])
  (fun k=>2*k≤l.length) (fun k=>l.length-2*k) 0 zO (Zaj rfl ?_ ?_ ?_) ?_
 ·exact Nat.le_refl _
 ·(first|exact yT|refine yS ?_)
 ·simp (disch:=omega) only [wP,wZ,so,sm,sg,sn,undef,seval,if_pos,if_neg,Zbd,frz,AV.flat,↓reduceIte,ne_eq,reduceCtorEq,ByteArray.size,show bC (prK l 0)=[] from rfl,Zbh]
 rintro k hk -
 obtain ⟨q,hq⟩:∃ q,q=2*k+1:=⟨_,rfl⟩
 rw [←hq]
 repeat (first|refine zR @List.length_map.{0,0} ?_|exact zU @List.length_map.{0,0})
 refine SWp.cond rfl (fun h=>?_) (fun h=>?_)
 ·simp only [decide_eq_true_eq] at h
  have hql:q<l.length:=zO
  have hpl:2*k<l.length:=zO
  obtain ⟨p,hp⟩:∃ p,p=2*k:=⟨_,rfl⟩
  obtain ⟨x,hx⟩:∃ x,x=l.getD p (0,[]):=⟨_,rfl⟩
  obtain ⟨y,hy⟩:∃ y,y=l.getD q (0,[]):=⟨_,rfl⟩
  have hxm:x∈l:=by
   rw [hx,hp];simp only [List.getD,List.getElem?_eq_getElem hpl,Option.getD_some];exact List.getElem_mem _
  have hym:y∈l:=by
   rw [hy];simp only [List.getD,List.getElem?_eq_getElem hql,Option.getD_some];exact List.getElem_mem _
  obtain ⟨x1,x2,x3⟩:=hs x hxm
  obtain ⟨y1,y2,y3⟩:=hs y hym
  have e1:(l.map bA).getD p .junk = .agg [.sc (.int .i64 (x.1:Int)),.sl false none (x.2.map nA)]:=by rw [hx];exact ZuS zO
  have e2:(l.map bA).getD q .junk = .agg [.sc (.int .i64 (y.1:Int)),.sl false none (y.2.map nA)]:=by rw [hy];exact ZuS hql
  have eqp:(q:Int)-1=(p:Int):=zO
  obtain ⟨z,hz⟩:∃ z,z=x.1+y.1:=⟨_,rfl⟩
  have esum:(x.1:Int)+(y.1:Int)=(z:Int):=zO
  have hpr:prK l (k+1)=prK l k++[(z,x.2++y.2)]:=by rw [ZDo,←hp,show p+1=q from by omega,←hx,←hy,←hz]
  have hcells:bC (prK l k)++[.sc (.int .i64 (z:Int)),.sl false none ((x.2++y.2).map nA)]=bC (prK l (k+1)):=by
   rw [hpr,←Zl7];rfl
  have hcat:=ZkG false false (x.2.map nA) (y.2.map nA) Zaa Zaa (by rw [List.length_map];omega) (by rw [List.length_map];omega) (by simp only [List.length_map];omega)
  rw [←List.map_append] at hcat
  obtain ⟨xy,hxy⟩:∃ xy,xy=x.2++y.2:=⟨_,rfl⟩
  rw [←hxy] at hcat hcells hpr
  repeat (first|refine zR (ja5 @eqp @e1 @e2 iR @esum) ?_|exact zU (ja5 @eqp @e1 @e2 iR @esum))
  refine Zaz _ (.inl ⟨by simp only [AV.free,AV.free.freeL,Zaa,Bool.and_self],hcat⟩) ?_
  repeat (first|refine zR (ja4 @Za8 @ZjU @hcells @Bool.and_false) ?_|exact zU (ja4 @Za8 @ZjU @hcells @Bool.and_false))
  refine ⟨⟨⟨_,rfl,rfl⟩,Zaa⟩,⟨fun w hw=>⟨_,List.mem_singleton.1 hw⟩,by omega,by omega⟩,?_⟩
  have hfl:List.flatMap (fun x=>(Zas x).getD []) [AV.agg [AV.sc (Value.int IntKind.i64 (z:Int)),AV.sl false none (List.map nA xy)]]=[.sc (.int .i64 (z:Int)),.sl false none (xy.map nA)]:=rfl
  repeat (first|refine zR (ja2 @hfl @hcells) ?_|exact zU (ja2 @hfl @hcells))
  refine At.of (k+1) zO zO rfl rfl (show 3*k+1+1+1+1≤3*(k+1)+1 by omega) ?_ ?_
  ·simp (disch:=omega) only [wP,wZ,so,sm,sg,sn,undef,seval,if_pos,if_neg,Zbd,frz,AV.flat,↓reduceIte,ne_eq,reduceCtorEq,ByteArray.size,show 3*k+1+1+1=3*(k+1) from by omega]
   try omega
  ·simp (disch:=omega) only [wP,wZ,so,sm,sg,sn,undef,seval,if_pos,if_neg,Zbd,frz,AV.flat,↓reduceIte,ne_eq,reduceCtorEq,ByteArray.size,show 3*k+1+1+1=3*(k+1) from by omega,Zbi]
 ·simp only [decide_eq_false_iff_not] at h
  obtain rfl:k=l.length / 2:=zO
  repeat (first|refine zS ?_|exact zT)
  rw [if_pos (by rw [Za8,ZjU];omega)]
  have:=Zl8 (l:=prK l (l.length / 2))
  rw [ZjU] at this
  rw [this]
end Go.Proofs.YtfplkgciebjehabGreatDoor.Aw
