/- Parts of the proof of GzipBack. -/
import Derived.Test.YtbcncdpaigljeaaGreatDoorQGzipBackBH
import Derived.Test.YtbcncdpaigljeaaGreatDoorQGzipBackBF
import Derived.Test.YtbcncdpaigljeaaGreatDoorQGzipBackBC
import Derived.Test.YtbcncdpaigljeaaGreatDoorQGzipBackBE
import Derived.Test.YtbcncdpaigljeaaGreatDoorQGzipBackBG
namespace Go.Proofs.YtbcncdpaigljeaaGreatDoor.Aw
open Go
set_option linter.unusedSimpArgs false
set_option linter.unusedVariables false
theorem Zys {l:List (Nat × Nat)}:chunks (some 2) l.length (pcC l)=l.map pcA:=by
 have h:=ZhM (es:=some 2) (l.map pcA) (fun x hx=>by
  obtain ⟨p,_,rfl⟩:=List.mem_map.1 hx
  exact ⟨_,rfl,rfl⟩)
 rw [List.length_map,List.flatMap_map] at h
 exact h
theorem ZBA:pcC []=[]:=rfl
theorem ZEF:nl0 0=true:=rfl
def Zv9 (b:List UInt8):List (Nat × Nat) × Nat:=ZmI b b.length 0 ([],List.replicate b.length 0) [] 0
def ZjH (b:List UInt8):List (Nat × Nat):=(Zv9 b).1++ZnH (b.drop (Zv9 b).2)
theorem Zo3 {b:List UInt8} (I:Nat→List (Nat × Nat)→Nat→Prop) (hI:∀ p P s l k,I p P s→s≤p→p<b.length→Zyp b p (min 258 (b.length-p)) (l,k)→0<l→I (p+l) (ZyI b P s p l k) (p+l)) (hJ:∀ p P s,I p P s→I (p+1) P s) :
  ∀ (n p:Nat) (x:List (K3 × Nat) × List Int) (P:List (Nat × Nat)) (s:Nat),FInv b x.1 x.2 p→p≤b.length→s≤p→b.length≤p+n→I p P s→I b.length (ZmI b n p x P s).1 (ZmI b n p x P s).2∧(ZmI b n p x P s).2≤b.length
 | 0,p,x,P,s,hF,hp,hs,hn,h=>by
  obtain rfl:p=b.length:=by omega
  exact ⟨h,hs⟩
 | n+1,p,x,P,s,hF,hp,hs,hn,h=>by
  rw [ZmI]
  by_cases c:b.length≤p
  ·rw [if_pos c]
   obtain rfl:p=b.length:=by omega
   exact ⟨h,hs⟩
  ·rw [if_neg c]
   have ho:=ZBx hF (show p<b.length by omega)
   by_cases d:0<(ZBw b x.1 x.2 p).1
   ·rw [if_pos d]
    have hl:p+(ZBw b x.1 x.2 p).1≤b.length:=by
     rcases ho with h | ⟨_,h2,_⟩
     ·omega
     ·have:min 258 (b.length-p)≤b.length-p:=Nat.min_le_right _ _
      omega
    exact Zo3 I hI hJ n _ _ _ _ (Zru hF hl) hl (Nat.le_refl _) (by omega) (hI _ _ _ _ _ h hs (by omega) ho d)
   ·rw [if_neg d]
    exact Zo3 I hI hJ n _ _ _ _ (Zru hF (by omega)) (by omega) (by omega) (by omega) (hJ _ _ _ h)
theorem Zwa {b:List UInt8} (I:Nat→List (Nat × Nat)→Nat→Prop) (hI:∀ p P s l k,I p P s→s≤p→p<b.length→Zyp b p (min 258 (b.length-p)) (l,k)→0<l→I (p+l) (ZyI b P s p l k) (p+l)) (hJ:∀ p P s,I p P s→I (p+1) P s) (h0:I 0 [] 0):I b.length (Zv9 b).1 (Zv9 b).2∧(Zv9 b).2≤b.length :=
 Zo3 I hI hJ b.length 0 ([],List.replicate b.length 0) [] 0 FInv.start (Nat.zero_le _) (Nat.le_refl _) (by omega) h0
theorem ZBB {l:List UInt8}:∀ q∈ZnH l,ZkQ q:=fun q hq=>by
 obtain ⟨c,_,rfl⟩:=List.mem_map.1 hq
 exact .inl ⟨rfl,by have:=c.toNat_lt;omega⟩
theorem ZjI {b:List UInt8} (hb:b.length≤20000):((∀ q∈(Zv9 b).1,ZkQ q)∧(Zv9 b).1.length≤(Zv9 b).2)∧(Zv9 b).2≤b.length:=by
 have h:=Zwa (b:=b) (fun p P s=>(∀ q∈P,ZkQ q)∧P.length≤s) (fun p P s l k h hs hp ho hl=>⟨fun q hq=>?_,?_⟩) (fun p P s h=>h) ⟨by simp,by simp⟩
 ·exact h
 ·rw [ZyI] at hq
  rcases List.mem_append.1 hq with hq | hq
  ·rcases List.mem_append.1 hq with hq | hq
   ·exact h.1 q hq
   ·exact ZBB q hq
  ·rw [List.mem_singleton] at hq
   subst hq
   rcases ho with ho | ⟨h1,h2,h3,h4,_⟩
   ·simp only at ho;omega
   ·simp only at h1 h2 h3 h4
    exact .inr ⟨by simp only;omega,by simp only;omega,by simp only;omega,by simp only;omega⟩
 ·have:=h.2
  rw [Zo2 hs (by omega)];omega
theorem Zge {b:List UInt8} (hb:b.length≤20000):∀ q∈ZjH b,ZkQ q:=fun q hq=>by
 rcases List.mem_append.1 hq with hq | hq
 ·exact (ZjI hb).1.1 q hq
 ·exact ZBB q hq
theorem Zih {b:List UInt8} (hb:b.length≤20000):(ZjH b).length≤20000:=by
 have h:=ZjI hb
 rw [ZjH,List.length_append,ZnH,List.length_map,List.length_drop];omega
set_option maxHeartbeats 1000000 in
set_option maxRecDepth 100000 in
theorem Zqu [Tabs Tryz.prog] (nl:Bool) (b:List UInt8) (hb:b.length≤20000):Con Tryz.prog ZdM [.sl nl none (b.map u8)] (.sl (nl0 (ZjH b).length) (some 2) ((ZjH b).map pcA)):=by
 refine Con.of' mix Tryz.func22 rfl Tryz.ntmps22 Zlw Zlx (by simp) (by simp only [AV.free,AV.free.freeL,Zak,Bool.and_self]) (by simp only [AV.free];exact Zec) ?_
 unfold ZgJ
 obtain ⟨R,hR0⟩:∃ R,R=Zv9 b:=⟨_,rfl⟩
 have er:=ZBz nl b hb R hR0
 have hf:=ZjI hb
 rw [←hR0] at hf
 obtain ⟨⟨hf1,hf2⟩,hf3⟩:=hf
 obtain ⟨Q,s⟩:=R
 simp only at hf1 hf2 hf3 er
 obtain ⟨N,hN⟩:∃ N,N=Q.length:=⟨_,rfl⟩
 have p1:=Ztb nl b hb s b.length hf3 (Nat.le_refl _) Q N hN (by omega)
 rw [List.take_length] at p1
 have hM:ZjH b=Q++ZnH (b.drop s):=by rw [ZjH,←hR0]
 rw [←hM] at p1
 have hMl:(ZjH b).length=N+(b.length-s):=by rw [hM,List.length_append,ZnH,List.length_map,List.length_drop,hN]
 obtain ⟨Z,hZ⟩:∃ Z,Z=ZjH b:=⟨_,rfl⟩
 obtain ⟨M,hMd⟩:∃ M,M=Z.length:=⟨_,rfl⟩
 have hMe:N+(b.length-s)=M:=by rw [hMd,hZ,hMl]
 rw [hMe,←hZ] at p1
 have hcn:chunks (some 2) M (pcC Z)=Z.map pcA:=by rw [hMd];exact Zys
 have hpl:(pcC Z).length=M*2:=by rw [ZjG,hMd]
 rw [←hZ,←hMd]
 simp only [p2I,p2O,List.length_nil,←hN] at er
 iterate 4 (first | refine zS ?_ | exact zT)
 refine SWp.adoptC 3 1 0 100 (some 2) (nl:=false) (cells:=[.sc (.slice none 0 0)]) (by (first | exact yT | refine yS ?_)) rfl (by decide) ?_
 repeat (first | refine zR @List.set_cons_zero.{0} ?_ | exact zU @List.set_cons_zero.{0})
 refine Zag [(5,4),(3,1),(4,3),(1,0),(100,2)] 2000 er (by simp) (by simp) ?_ ?_ ?_
 iterate 2 (case _=>(first | exact yU (ja5 hR @Zal @ZaO @ZBA @ZEF) | refine yR (ja5 hR @Zal @ZaO @ZBA @ZEF) ?_))
 iterate 1 (first | refine zR (ja3 hR @Zal @ZaO) ?_ | exact zU (ja3 hR @Zal @ZaO))
 repeat (first | refine zR (ja4 hR @Zal @ZaO @List.length_map.{0,0}) ?_ | exact zU (ja4 hR @Zal @ZaO @List.length_map.{0,0}))
 refine Zt2 rfl ?_
 refine Zag [(1,0),(4,3),(3,1),(100,5+(KE+1))] 3000 p1 (by simp) (by simp) ?_ ?_ ?_
 iterate 2 (case _=>(first | exact yU (ja3 hR @Zal @ZaO) | refine yR (ja3 hR @Zal @ZaO) ?_))
 repeat (first | refine zR (ja5 hR @Zal @ZaO @hcn @hpl) ?_ | exact zU (ja5 hR @Zal @ZaO @hcn @hpl))
def wrR (g n i:Nat):List AV:=[.own 1001 g none 0 n,.sc (.int .i64 (i:Int))]
theorem ZlR {n i:Nat} {nl:Bool} {b:List UInt8}:∀ m cells,AO.row m cells∈[AO.row false (wrR 0 n i),.row nl (b.map u8)]→AV.gl.glL 1 cells:=by
 intro m cells h
 simp only [List.mem_cons,AO.row.injEq,List.not_mem_nil,or_false] at h
 obtain ⟨-,rfl⟩ | ⟨-,rfl⟩:=h
 ·simp only [wrR,AV.gl.glL,AV.gl,and_true];omega
 ·exact Zae _ _ Zak
theorem Ze5 [Tabs Tryz.prog]:HCon Tryz.prog Zis [] [] (.op 2 1 0) [(2,1,.row false [.own 100 2 none 0 0,int 0]),(100,2,.row true [])] 3:=by
 refine HCon.of' mix Tryz.func19 rfl Tryz.ntmps19 Znv Znw (by simp) (by simp [AV.gl.glL]) (by simp) ?_
 unfold Ziz
 iterate 4 (first | refine zS ?_ | exact zT)
 refine SWp.adoptC 2 1 0 100 none (nl:=false) (cells:=[.sc (.slice none 0 0),int 0]) (by (first | exact yT | refine yS ?_)) rfl (by decide) ?_
 repeat (first | refine zR @List.set_cons_zero.{0} ?_ | exact zU @List.set_cons_zero.{0})
set_option maxRecDepth 100000 in
theorem Zo4 [Tabs Tryz.prog] (L:List Nat) (hl:L.length≤3000000) (hL:∀ x∈L,x<2) (n i:Nat) (hn:n=(L.length+7) / 8) (hi:i=L.length) (x:Nat) (hx:x<2) :
  HCon Tryz.prog ZeD [.op 1000 0 0,.sc (.int .i64 (x:Int))] [.row false (wrR 0 n i),.row (nl0 n) ((Zat L).map u8)] (.tup [])
   [(1000,0,.row false (wrR 1 ((i+8) / 8) (i+1))),(1001,1,.row false ((Zat (L++[x])).map u8))] 2:=by
 refine HCon.of' mix Tryz.func121 rfl Tryz.ntmps121 Zmt Zmu (by simp) (by simp [AV.gl,AV.gl.glL]) ZlR ?_
 unfold Zhv
 have hbl:(Zat L).length=n:=by rw [Za3,hn]
 by_cases c0:i % 8=0
 ·have hs:=ZsG (L:=L) (x:=x) (by omega)
  have hin:i / 8=n:=by omega
  have hn1:(i+8) / 8=n+1:=by omega
  obtain ⟨b,hb⟩:∃ b,b=Zat L:=⟨_,rfl⟩
  rw [←hb] at hs hbl ⊢
  rw [hs,hn1]
  obtain ⟨b0,hb0⟩:∃ b0,b0=b++[0]:=⟨_,rfl⟩
  have hrow:b.map u8++[AV.sc (.int .u8 0)]=b0.map u8:=by rw [hb0];simp [u8]
  have hl0:b0.length=n+1:=by rw [hb0];simp [hbl]
  have hg0:b0.getD n 0=0:=by rw [hb0,←hbl];simp [List.getD]
  have hset:b0.set n (UInt8.ofNat x)=b++[UInt8.ofNat x]:=by rw [hb0,←hbl];simp
  have hor:Zb5 .or .u8 ((b0.getD n 0).toNat:Int) .u8 (x:Int)=(True,.sc (.int .u8 ((UInt8.ofNat x).toNat:Int))):=by
   rw [hg0]
   obtain rfl | rfl:x=0∨x=1:=by omega
   ·exact ZE9 (n:=0) (m:=0) (by omega) (by omega)
   ·exact ZE9 (n:=0) (m:=1) (by omega) (by omega)
  have hfin:=Zsi (b:=b0) (k:=n) (c:=UInt8.ofNat x) (by omega)
  rw [hset] at hfin
  repeat (first | refine zR (ja7 @wrR.eq_1 @c0 @hin @hrow @hor @hfin iR) ?_ | exact zU (ja7 @wrR.eq_1 @c0 @hin @hrow @hor @hfin iR))
 ·have hs:=ZsH (L:=L) (x:=x) (by omega)
  have hla:=ZuC (L:=L) (by omega)
  obtain ⟨q,hq⟩:∃ q,q=L.length / 8:=⟨_,rfl⟩
  obtain ⟨j,hj⟩:∃ j,j=L.length % 8:=⟨_,rfl⟩
  rw [←hq] at hs hla
  rw [←hj] at hs
  have hlt:=ZuA (l:=L.drop (8*q)) fun y hy=>hL y (List.mem_of_mem_drop hy)
  have hdl:(L.drop (8*q)).length=j:=by rw [List.length_drop];omega
  rw [hdl] at hlt
  obtain ⟨y,hy⟩:∃ y,y=Zg1 (L.drop (8*q)):=⟨_,rfl⟩
  rw [←hy] at hs hla hlt
  have hp:2^j≤128:=Zcf (n:=j) (m:=7) (by omega)
  obtain ⟨z,hz⟩:∃ z,z=x*2^j:=⟨_,rfl⟩
  have hzl:z≤128:=by
   obtain rfl | rfl:x=0∨x=1:=by omega
   ·omega
   ·omega
  have hor:y|||z=y+2^j*x:=by
   rw [hz,Nat.mul_comm,Nat.or_comm,←Nat.two_pow_add_eq_or_of_lt hlt,Nat.add_comm]
  have hyz:y+2^j*x<256:=by
   rw [Nat.mul_comm,←hz]
   have:=Nat.or_lt_two_pow (n:=8) (x:=y) (y:=z) (by omega) (by omega)
   rw [hor,Nat.mul_comm,←hz] at this
   exact this
  have hiq:i / 8=q:=by omega
  have hij:i % 8=j:=by omega
  have hi8:(i+8) / 8=n:=by omega
  have hqn:q<n:=by omega
  obtain ⟨b,hb⟩:∃ b,b=Zat L:=⟨_,rfl⟩
  rw [←hb] at hs hla hbl ⊢
  rw [hs,hi8]
  have hbq:((b.getD q 0).toNat:Int)=(y:Int):=by rw [hla,UInt8.toNat_ofNat',Nat.mod_eq_of_lt (by omega)]
  obtain ⟨c,hc⟩:∃ c,c=UInt8.ofNat (y+2^j*x):=⟨_,rfl⟩
  have hcy:y|||z=c.toNat:=by rw [hc,hor,UInt8.toNat_ofNat',Nat.mod_eq_of_lt hyz]
  rw [←hc]
  have hfin:=Zsi (b:=b) (k:=q) (c:=c) (by omega)
  have dj:decide ((j:Int)=0)=false:=decide_eq_false (by omega)
  have hnl:nl0 n=false:=Zcg (by omega)
  refine SWp.renew 1001 0 (o:=.row (nl0 n) (b.map u8)) (by (first | exact yU @wrR.eq_1 | refine yR @wrR.eq_1 ?_)) ?_
  refine SWp.le (Zau (N:=47) (gc:=2) (l:=[(0,.op 1000 0 0),(1,.sc (.int .i64 (x:Int)))]) (h:=[(1000,0,.row false (wrR 1 n i)),(1001,1,.row false (b.map u8))]) rfl ?_ ?_ ?_) ?_
  ·exact Nat.le_refl _
  iterate 2 (case _=>(first | exact yU (ja4 @Zbm @wrR.eq_1 @Zbn @hnl) | refine yR (ja4 @Zbm @wrR.eq_1 @Zbn @hnl) ?_))
  repeat (first | refine zR (ja8 @wrR.eq_1 @hij @dj @hiq @hbq hz.symm @hcy (ja2 @hfin iR)) ?_ | exact zU (ja8 @wrR.eq_1 @hij @dj @hiq @hbq hz.symm @hcy (ja2 @hfin iR)))
set_option maxRecDepth 100000 in
theorem ZfD [Tabs Tryz.prog] (L:List Nat) (hl:L.length≤2000000) (hL:∀ x∈L,x<2) (v:Nat) (hv:v<16777216) (n:Nat) (hn:n≤24) (i m:Nat) (hi:i=L.length) (hm:m=(L.length+7) / 8) :
  HCon Tryz.prog ZaC [.op 1000 0 0,.sc (.int .i64 (v:Int)),.sc (.int .i64 (n:Int))] [.row false (wrR 0 m i),.row (nl0 m) ((Zat L).map u8)] (.tup [])
   [(1000,0,.row false (wrR 60 ((i+n+7) / 8) (i+n))),(1001,60,.row (nl0 ((i+n+7) / 8)) ((Zat (L++Zbq v n)).map u8))] 61:=by
 refine HCon.of' mix Tryz.func80 rfl Tryz.ntmps80 Zmn Zmo (by simp) (by simp [AV.gl,AV.gl.glL]) ZlR ?_
 unfold Zho
 have d1:decide ((n:Int)<0)=false:=decide_eq_false (by omega)
 have d2:decide (24<(n:Int))=false:=decide_eq_false (by omega)
 repeat (first | refine zR (ja2 @d1 @d2) ?_ | exact zU (ja2 @d1 @d2))
 refine SWp.loop (α:=Nat × Nat) (fun x=>mk 24 (1+2*x.1) [(0,.op 1000 0 0),(1,.sc (.int .i64 (v:Int))),(13,int n),(14,int x.1)] [(1000,0,.row false (wrR x.2 ((i+x.1+7) / 8) (i+x.1))),(1001,x.2,.row (nl0 ((i+x.1+7) / 8)) ((Zat (L++(Zbq v n).take x.1)).map u8))])
  (fun x=>x.1≤n) (fun x=>n-x.1) (0,0) (Nat.zero_le _) (Zau rfl ?_ ?_ ?_) ?_
 ·exact Nat.le_refl _
 ·(first | exact yT | refine yS ?_)
 ·(first | exact yU (ja3 @wrR.eq_1 @List.take_zero.{0} @List.append_nil.{0}) | refine yR (ja3 @wrR.eq_1 @List.take_zero.{0} @List.append_nil.{0}) ?_)
  rw [hm,hi];exact ⟨rfl,rfl⟩
 rintro ⟨k,g⟩ hk -
 simp only at hk
 repeat (first | refine zS ?_ | exact zT)
 refine SWp.cond rfl (fun h=>?_) (fun h=>?_)
 ·simp only [decide_eq_true_eq] at h
  have hkn:k<n:=by omega
  have hs:=ZAn (v:=v) hkn
  obtain ⟨L',hL'⟩:∃ L',L'=L++(Zbq v n).take k:=⟨_,rfl⟩
  have hll:L'.length=i+k:=by rw [hL',List.length_append,List.length_take,Zap];omega
  have hL2:∀ x∈L',x<2:=by
   rw [hL']
   intro x hx
   rcases List.mem_append.1 hx with h | h
   ·exact hL x h
   ·exact Ze3 x (List.mem_of_mem_take h)
  obtain ⟨y,hy⟩:∃ y,y=v / 2^k:=⟨_,rfl⟩
  rw [←hy] at hs
  have hyv:y<16777216:=by rw [hy];exact Nat.lt_of_le_of_lt (Nat.div_le_self _ _) hv
  have hbit:=Zo4 L' (by omega) hL2 ((i+k+7) / 8) (i+k) (by rw [hll]) hll.symm (y % 2) (Nat.mod_lt _ (by omega))
  have hs2:L++(Zbq v n).take (k+1)=L'++[y % 2]:=by rw [hs,hL',List.append_assoc]
  rw [←hL']
  have e78:i+(k+1)+7=i+k+8:=by omega
  have hnl:nl0 ((i+k+8) / 8)=false:=Zcg (by omega)
  repeat (first | refine zR (ja2 hy.symm @wrR.eq_1) ?_ | exact zU (ja2 hy.symm @wrR.eq_1))
  refine Zag [(1000,0),(1001,g)] 2000 hbit (by simp) (by simp) ?_ ?_ ?_
  iterate 2 (case _=>(first | exact yU (ja2 @wrR.eq_1 iR) | refine yR (ja2 @wrR.eq_1 iR) ?_))
  repeat (first | refine zR (ja2 @wrR.eq_1 iR) ?_ | exact zU (ja2 @wrR.eq_1 iR))
  refine At.of (k+1,1+2*k+1) (by simp only;omega) (by simp only;omega) rfl rfl ?_ ?_ ?_
  ·simp only;omega
  iterate 2 (case _=>(first | exact yU (ja5 @wrR.eq_1 @hs2 @e78 @hnl @Int.add_assoc) | refine yR (ja5 @wrR.eq_1 @hs2 @e78 @hnl @Int.add_assoc) ?_))
 ·simp only [decide_eq_false_iff_not] at h
  obtain rfl:k=n:=by omega
  have ht:(Zbq v k).take k=Zbq v k:=List.take_of_length_le (by rw [Zap];exact Nat.le_refl _)
  rw [ht]
  refine SWp.le (Zau (N:=24) (gc:=60) (l:=[]) (h:=[(1000,0,.row false (wrR g ((i+k+7) / 8) (i+k))),(1001,g,.row (nl0 ((i+k+7) / 8)) ((Zat (L++Zbq v k)).map u8))]) rfl ?_ ?_ ?_) ?_
  ·(first | exact yT | refine yS ?_)
   omega
  iterate 2 (case _=>(first | exact yT | refine yS ?_))
  refine SWp.renew 1001 g (o:=.row (nl0 ((i+k+7) / 8)) ((Zat (L++Zbq v k)).map u8)) (by (first | exact yT | refine yS ?_)) ?_
  refine SWp.le (Zau (N:=24) (gc:=61) (l:=[]) (h:=[(1000,0,.row false (wrR 60 ((i+k+7) / 8) (i+k))),(1001,60,.row (nl0 ((i+k+7) / 8)) ((Zat (L++Zbq v k)).map u8))]) rfl ?_ ?_ ?_) ?_
  iterate 3 (case _=>(first | exact yU (ja3 @wrR.eq_1 @Zbn @Zbm) | refine yR (ja3 @wrR.eq_1 @Zbn @Zbm) ?_))
  repeat (first | refine zR iR ?_ | exact zU iR)
set_option maxRecDepth 100000 in
theorem Zu0 [Tabs Tryz.prog] (L:List Nat) (hl:L.length≤2000000) (hL:∀ x∈L,x<2) (v:Nat) (hv:v<33554432) (n:Nat) (hn:n≤15) (i m:Nat) (hi:i=L.length) (hm:m=(L.length+7) / 8) :
  HCon Tryz.prog Zgs [.op 1000 0 0,.sc (.int .i64 (v:Int)),.sc (.int .i64 (n:Int))] [.row false (wrR 0 m i),.row (nl0 m) ((Zat L).map u8)] (.tup [])
   [(1000,0,.row false (wrR 60 ((i+n+7) / 8) (i+n))),(1001,60,.row (nl0 ((i+n+7) / 8)) ((Zat (L++ZnO v n)).map u8))] 61:=by
 refine HCon.of' mix Tryz.func122 rfl Tryz.ntmps122 ZlB ZlC (by simp) (by simp [AV.gl,AV.gl.glL]) ZlR ?_
 unfold ZgL
 have d1:decide ((n:Int)<0)=false:=decide_eq_false (by omega)
 have d2:decide (15<(n:Int))=false:=decide_eq_false (by omega)
 repeat (first | refine zR (ja2 @d1 @d2) ?_ | exact zU (ja2 @d1 @d2))
 refine SWp.loop (α:=Nat × Nat) (fun x=>mk 27 (1+2*x.1) [(0,.op 1000 0 0),(1,.sc (.int .i64 (v:Int))),(2,int n),(13,int n),(14,int x.1)] [(1000,0,.row false (wrR x.2 ((i+x.1+7) / 8) (i+x.1))),(1001,x.2,.row (nl0 ((i+x.1+7) / 8)) ((Zat (L++(ZnO v n).take x.1)).map u8))])
  (fun x=>x.1≤n) (fun x=>n-x.1) (0,0) (Nat.zero_le _) (Zau rfl ?_ ?_ ?_) ?_
 ·exact Nat.le_refl _
 ·(first | exact yT | refine yS ?_)
 ·(first | exact yU (ja3 @wrR.eq_1 @List.take_zero.{0} @List.append_nil.{0}) | refine yR (ja3 @wrR.eq_1 @List.take_zero.{0} @List.append_nil.{0}) ?_)
  rw [hm,hi];exact ⟨rfl,rfl⟩
 rintro ⟨k,g⟩ hk -
 simp only at hk
 repeat (first | refine zS ?_ | exact zT)
 refine SWp.cond rfl (fun h=>?_) (fun h=>?_)
 ·simp only [decide_eq_true_eq] at h
  have hkn:k<n:=by omega
  have hs:=ZAo (v:=v) hkn
  obtain ⟨L',hL'⟩:∃ L',L'=L++(ZnO v n).take k:=⟨_,rfl⟩
  have hll:L'.length=i+k:=by rw [hL',List.length_append,List.length_take,Zdx];omega
  have hL2:∀ x∈L',x<2:=by
   rw [hL']
   intro x hx
   rcases List.mem_append.1 hx with h | h
   ·exact hL x h
   ·exact ZuD x (List.mem_of_mem_take h)
  obtain ⟨j,hj⟩:∃ j,j=n-1-k:=⟨_,rfl⟩
  have hj2:(n:Int)-1-(k:Int)=(j:Int):=by omega
  have hj3:j≤15:=by omega
  obtain ⟨y,hy⟩:∃ y,y=v / 2^j:=⟨_,rfl⟩
  rw [←hj,←hy] at hs
  have hyv:y<33554432:=by rw [hy];exact Nat.lt_of_le_of_lt (Nat.div_le_self _ _) hv
  have hbit:=Zo4 L' (by omega) hL2 ((i+k+7) / 8) (i+k) (by rw [hll]) hll.symm (y % 2) (Nat.mod_lt _ (by omega))
  have hs2:L++(ZnO v n).take (k+1)=L'++[y % 2]:=by rw [hs,hL',List.append_assoc]
  rw [←hL']
  have e78:i+(k+1)+7=i+k+8:=by omega
  have hnl:nl0 ((i+k+8) / 8)=false:=Zcg (by omega)
  repeat (first | refine zR (ja3 @hj2 hy.symm @wrR.eq_1) ?_ | exact zU (ja3 @hj2 hy.symm @wrR.eq_1))
  refine Zag [(1000,0),(1001,g)] 2000 hbit (by simp) (by simp) ?_ ?_ ?_
  iterate 2 (case _=>(first | exact yU (ja2 @wrR.eq_1 iR) | refine yR (ja2 @wrR.eq_1 iR) ?_))
  repeat (first | refine zR (ja2 @wrR.eq_1 iR) ?_ | exact zU (ja2 @wrR.eq_1 iR))
  refine At.of (k+1,1+2*k+1) (by simp only;omega) (by simp only;omega) rfl rfl ?_ ?_ ?_
  ·simp only;omega
  iterate 2 (case _=>(first | exact yU (ja5 @wrR.eq_1 @hs2 @e78 @hnl @Int.add_assoc) | refine yR (ja5 @wrR.eq_1 @hs2 @e78 @hnl @Int.add_assoc) ?_))
 ·simp only [decide_eq_false_iff_not] at h
  obtain rfl:k=n:=by omega
  have ht:(ZnO v k).take k=ZnO v k:=List.take_of_length_le (by rw [Zdx];exact Nat.le_refl _)
  rw [ht]
  refine SWp.le (Zau (N:=27) (gc:=60) (l:=[]) (h:=[(1000,0,.row false (wrR g ((i+k+7) / 8) (i+k))),(1001,g,.row (nl0 ((i+k+7) / 8)) ((Zat (L++ZnO v k)).map u8))]) rfl ?_ ?_ ?_) ?_
  ·(first | exact yT | refine yS ?_)
   omega
  iterate 2 (case _=>(first | exact yT | refine yS ?_))
  refine SWp.renew 1001 g (o:=.row (nl0 ((i+k+7) / 8)) ((Zat (L++ZnO v k)).map u8)) (by (first | exact yT | refine yS ?_)) ?_
  refine SWp.le (Zau (N:=27) (gc:=61) (l:=[]) (h:=[(1000,0,.row false (wrR 60 ((i+k+7) / 8) (i+k))),(1001,60,.row (nl0 ((i+k+7) / 8)) ((Zat (L++ZnO v k)).map u8))]) rfl ?_ ?_ ?_) ?_
  iterate 3 (case _=>(first | exact yU (ja3 @wrR.eq_1 @Zbn @Zbm) | refine yR (ja3 @wrR.eq_1 @Zbn @Zbm) ?_))
  repeat (first | refine zR iR ?_ | exact zU iR)
theorem Zii [Tabs Tryz.prog] (n i:Nat) (b:List UInt8) (hb:b.length=n) (hn:n≤1000000):HCon Tryz.prog ZfT [.op 1000 0 0] [.row false (wrR 0 n i),.row (nl0 n) (b.map u8)] (.sl (nl0 n) none (b.map u8)) [(1000,0,.row false (wrR 0 n i)),(1001,0,.row (nl0 n) (b.map u8))] 10:=by
 refine HCon.of' mix Tryz.func24 rfl Tryz.ntmps24 ZkA ZkB (by simp) (by simp [AV.gl,AV.gl.glL]) ZlR ?_
 unfold Zf3
 have hnl:nl0 n=true→b=[]:=by
  intro h
  cases n with
  | zero=>exact List.eq_nil_of_length_eq_zero hb
  | succ n=>simp [nl0] at h
 have hcl:=Zq7 (nl0 n) b (by omega) hnl
 rw [hb] at hcl
 repeat (first | refine zR @wrR.eq_1 ?_ | exact zU @wrR.eq_1)
 refine ZHx [] 2000 hcl (by simp) (by simp) ?_ ?_ rfl ?_ ?_
 ·(first | exact yT | refine yS ?_)
 ·refine ⟨.inr ⟨?_,?_⟩,trivial⟩
  ·(first | exact yU @hb | refine yR @hb ?_)
  ·simp only [AV.free,Zak]
 ·simp only [foH,ZEu,Bool.and_self]
 iterate 1 (first | refine zR @wrR.eq_1 ?_ | exact zU @wrR.eq_1)
 refine SWp.frzo 2005 3 (nl:=nl0 n) (cells:=b.map u8) (by (first | exact yT | refine yS ?_)) Zak ?_
 refine SWp.le (Zau (N:=8) (gc:=4) (l:=[(2,.sl (nl0 n) none (b.map u8))]) (h:=[(1000,0,.row false (wrR 0 n i)),(1001,0,.row (nl0 n) (b.map u8))]) rfl ?_ ?_ ?_) ?_
 iterate 3 (case _=>(first | exact yU (ja3 fR @hb @wrR.eq_1) | refine yR (ja3 fR @hb @wrR.eq_1) ?_))
 repeat (first | refine zR @wrR.eq_1 ?_ | exact zU @wrR.eq_1)
def ZjJ (l:List Nat) (s:Nat × Nat × Nat):List Nat:=ZnO ((ZbM l).getD s.1 0) (l.getD s.1 0)++Zbq s.2.1 s.2.2
theorem ZkR {l:List Nat} {s:Nat × Nat × Nat}:∀ x∈ZjJ l s,x<2:=fun x hx=>(List.mem_append.1 hx).elim (ZuD x) (Ze3 x)
theorem Zo5 {l:List Nat} {s:Nat × Nat × Nat}:(ZjJ l s).length=l.getD s.1 0+s.2.2:=by rw [ZjJ,List.length_append,Zdx,Zap]
structure SyOk (l:List Nat) (s:Nat × Nat × Nat):Prop where
 num:s.1<l.length
 more:s.2.1<16777216
 bits:s.2.2≤24
theorem Zjo {l:List Nat} (h:∀ x∈l,x≤15) {i:Nat} (hi:i<l.length):l.getD i 0≤15:=by
 have:l.getD i 0=l[i]:=by simp [List.getD,hi]
 rw [this];exact h _ (List.getElem_mem _)
theorem Ztc {l:List Nat} (h:LnOk l) {i:Nat} (hi:i<l.length):(ZbM l).getD i 0<33554432:=by
 have e:(ZbM l).getD i 0=Zbx l i:=by simp [ZbM,List.getD,hi]
 rw [e,Zbx]
 split
 ·omega
 ·have h1:=ZDx h.len (Zjo h.small hi)
  have h2:=Zfw (l:=l) (k:=i) (n:=l.getD i 0)
  have:=h.len
  omega
set_option maxRecDepth 100000 in
theorem Zed [Tabs Tryz.prog] (L:List Nat) (hl:L.length≤1900000) (hL:∀ x∈L,x<2) (nl:Bool) (l:List Nat) (ho:LnOk l) (s:Nat × Nat × Nat) (hs:SyOk l s) (i m:Nat) (hi:i=L.length) (hm:m=(L.length+7) / 8) (j:Nat) (hj:j=(L++ZjJ l s).length) :
  HCon Tryz.prog Zbc [.agg [.op 1000 0 0],cdA nl l,syA s] [.row false (wrR 0 m i),.row (nl0 m) ((Zat L).map u8)] (.tup [])
   [(1000,0,.row false (wrR 125 ((j+7) / 8) j)),(1001,125,.row (nl0 ((j+7) / 8)) ((Zat (L++ZjJ l s)).map u8))] 126:=by
 refine HCon.of' mix Tryz.func82 rfl Tryz.ntmps82 Zh4 Zh5 (by simp) ?_ ZlR ?_
 ·simp only [AV.gl.glL,AV.gl,cdA,syA,and_true,true_and]
  exact ⟨by omega,Zae _ _ Zab,Zae _ _ Zab⟩
 unfold Zd5
 obtain ⟨a,b,c⟩:=s
 have hs1:=hs.num
 have hs2:=hs.more
 have hs3:=hs.bits
 simp only at hs1 hs2 hs3
 have hcl:=Zid (l:=l)
 have g1:((ZbM l).map nA).getD a .junk = .sc (.int .i64 ((ZbM l).getD a 0:Int)):=Zcm (by omega)
 have g2:(l.map nA).getD a .junk = .sc (.int .i64 (l.getD a 0:Int)):=Zcm hs1
 have hv:=Ztc ho hs1
 have hn:=Zjo ho.small hs1
 rw [List.length_append,Zo5] at hj
 obtain ⟨C,hC⟩:∃ C,C=ZbM l:=⟨_,rfl⟩
 have hsy:ZjJ l (a,b,c)=ZnO (C.getD a 0) (l.getD a 0)++Zbq b c:=by rw [ZjJ,hC]
 rw [hsy]
 simp only at hj
 unfold cdA
 rw [←hC] at g1 hv hcl ⊢
 obtain ⟨v,hve⟩:∃ v,v=C.getD a 0:=⟨_,rfl⟩
 obtain ⟨n,hne⟩:∃ v,v=l.getD a 0:=⟨_,rfl⟩
 rw [←hve] at g1 hv ⊢
 rw [←hne] at g2 hn hj ⊢
 have p1:=Zu0 L (by omega) hL v hv n hn i m hi hm
 have hL1:∀ x∈L++ZnO v n,x<2:=fun x hx=>(List.mem_append.1 hx).elim (hL x) (ZuD x)
 have hl1:(L++ZnO v n).length=i+n:=by rw [List.length_append,Zdx,hi]
 have p2:=ZfD (L++ZnO v n) (by omega) hL1 b hs2 c hs3 (i+n) ((i+n+7) / 8) (by omega) (by omega)
 rw [List.append_assoc] at p2
 have hj2:i+n+c=j:=by omega
 rw [hj2] at p2
 obtain ⟨b1,e1⟩:∃ b,b=Zat (L++ZnO v n):=⟨_,rfl⟩
 obtain ⟨b2,e2⟩:∃ x,x=Zat (L++(ZnO v n++Zbq b c)):=⟨_,rfl⟩
 rw [←e1] at p1 p2
 rw [←e2] at p2 ⊢
 repeat (first | refine zR (ja5 @syA.eq_1 @List.length_map.{0,0} @g1 @g2 @hcl) ?_ | exact zU (ja5 @syA.eq_1 @List.length_map.{0,0} @g1 @g2 @hcl))
 refine Zag [(1000,0),(1001,0)] 2000 p1 (by simp) (by simp) ?_ ?_ ?_
 iterate 2 (case _=>(first | exact yU @wrR.eq_1 | refine yR @wrR.eq_1 ?_))
 repeat (first | refine zR (ja2 @wrR.eq_1 iR) ?_ | exact zU (ja2 @wrR.eq_1 iR))
 refine Zag [(1000,0),(1001,64)] 3000 p2 (by simp) (by simp) ?_ ?_ ?_
 iterate 2 (case _=>(first | exact yU @wrR.eq_1 | refine yR @wrR.eq_1 ?_))
 repeat (first | refine zR (ja2 @wrR.eq_1 iR) ?_ | exact zU (ja2 @wrR.eq_1 iR))
theorem Zwb {v n:Nat} (h1:2^n≤v) (h2:v<2^(n+1)) (hn:n<17):Zl2 v=n+1:=by
 unfold Zl2
 have e:List.range 17=List.range (n+1)++(List.range (16-n)).map ((n+1)+·):=by
  have:=List.range_add (n:=n+1) (m:=16-n)
  rwa [show n+1+(16-n)=17 by omega] at this
 rw [e,List.countP_append,List.countP_eq_length.2 (fun k hk=>by
  have hk:=List.mem_range.1 hk
  have:2^k≤2^n:=Nat.pow_le_pow_right (by omega) (by omega)
  simp only [decide_eq_true_eq];omega),List.countP_eq_zero.2 (fun k hk=>by
  rw [List.mem_map] at hk
  obtain ⟨j,_,rfl⟩:=hk
  have:2^(n+1)≤2^(n+1+j):=Nat.pow_le_pow_right (by omega) (by omega)
  simp only [decide_eq_true_eq];omega)]
 simp
theorem ZBC {w:Nat} (h:w<32768):ZiQ w 1<30:=by
 by_cases c:w=0
 ·subst c;decide
 ·obtain ⟨n,h1,h2⟩:∃ n,2^n≤w∧w<2^(n+1):=⟨w.log2,Nat.log2_self_le c,Nat.lt_log2_self⟩
  have hn:n<15:=by
   rcases Nat.lt_or_ge n 15 with h | h
   ·exact h
   ·have:2^15≤2^n:=Nat.pow_le_pow_right (by omega) h
    omega
  have hb:=Zwb h1 h2 (by omega)
  have hl:ZbE w 1=n-1:=by rw [ZbE,hb];omega
  rw [ZiQ,hl]
  have hq:w / 2^(n-1)<4:=by
   rw [Nat.div_lt_iff_lt_mul (Nat.two_pow_pos _)]
   have e4:4*2^(n-1)=2^(n-1+2):=by rw [Nat.pow_add,Nat.mul_comm]
   rw [e4]
   exact Nat.lt_of_lt_of_le h2 (Nat.pow_le_pow_right (by omega) (by omega))
  by_cases c1:n=0
  ·subst c1
   have:w=1:=by omega
   subst this;decide
  ·omega
theorem ZGy:∀ w,w<255→ZiQ w 2<28:=by decide +kernel
theorem Ztd {w h:Nat}:ZbE w h≤17:=by have:=ZuX (v:=w);rw [ZbE];omega
theorem Zo6 {l:List Nat} (hl:286≤l.length) {p:Nat × Nat} (hp:ZkQ p):SyOk l (Zig p):=by
 obtain ⟨v,b⟩:=p
 simp only [ZkQ] at hp
 unfold Zig
 split
 ·exact ⟨by simp only;omega,by simp,by simp⟩
 split
 ·exact ⟨by simp only;omega,by simp,by simp⟩
 ·rename_i h1 h2
  simp only at h1 h2
  have:=ZGy (v-3) (by omega)
  exact ⟨by simp only;omega,by simp only;omega,Nat.le_trans Ztd (by omega)⟩
theorem Zte {d:List Nat} (hd:30≤d.length) {p:Nat × Nat} (hp:ZkQ p) (h0:0<p.2):SyOk d (Znd p):=by
 obtain ⟨v,b⟩:=p
 simp only [ZkQ] at hp
 simp only at h0
 have:=ZBC (w:=b-1) (by omega)
 exact ⟨by simp only [Znd];omega,by simp only [Znd];omega,Nat.le_trans Ztd (by omega)⟩
theorem Ztf {l:List Nat} (hl:286≤l.length):SyOk l (256,0,0):=⟨by simp only;omega,by simp,by simp⟩
def pcB (l d:List Nat) (p:Nat × Nat):List Nat:=ZjJ l (Zig p)++if 0<p.2 then ZjJ d (Znd p) else []
def Zne (l d:List Nat) (P:List (Nat × Nat)):List Nat:=P.flatMap (pcB l d)++ZjJ l (256,0,0)
theorem Zfz {l:List Nat} (h:LnOk l) {s:Nat × Nat × Nat} (hs:SyOk l s):(ZjJ l s).length≤39:=by
 rw [Zo5]
 have:=Zjo h.small hs.num
 have:=hs.bits
 omega
theorem ZIl {l d:List Nat} {p:Nat × Nat}:∀ x∈pcB l d p,x<2:=fun x hx=>by
 rcases List.mem_append.1 hx with h | h
 ·exact ZkR x h
 ·split at h
  ·exact ZkR x h
  ·simp at h
theorem ZBD {l d:List Nat} (hl:LnOk l) (hd:LnOk d) (h1:286≤l.length) (h2:30≤d.length) {p:Nat × Nat} (hp:ZkQ p):(pcB l d p).length≤78:=by
 rw [pcB,List.length_append]
 have:=Zfz hl (Zo6 h1 hp)
 split
 ·rename_i c
  have:=Zfz hd (Zte h2 hp c)
  omega
 ·simp only [List.length_nil];omega
theorem ZlS {l d:List Nat} (hl:LnOk l) (hd:LnOk d) (h1:286≤l.length) (h2:30≤d.length):∀ {P:List (Nat × Nat)},(∀ p∈P,ZkQ p)→(P.flatMap (pcB l d)).length≤78*P.length
 | [],_=>Nat.le_refl _
 | p::P,h=>by
  rw [List.flatMap_cons,List.length_append,List.length_cons]
  have:=ZBD hl hd h1 h2 (h p (by simp))
  have:=ZlS hl hd h1 h2 (P:=P) fun q hq=>h q (by simp [hq])
  omega
theorem ZBE {l:List (Nat × Nat)} {i:Nat} (h:i<l.length):(l.map pcA).getD i .junk=pcA (l.getD i (0,0)):=by simp [List.getD,h]
set_option maxHeartbeats 1000000 in
set_option maxRecDepth 100000 in
theorem Zjp [Tabs Tryz.prog] (L:List Nat) (hl:L.length≤300000) (hL:∀ x∈L,x<2) (nl:Bool) (P:List (Nat × Nat)) (hP:P.length≤20000) (hok:∀ p∈P,ZkQ p) (l d:List Nat) (ol:LnOk l) (od:LnOk d) (l1:286≤l.length) (d1:30≤d.length) (i m:Nat) (hi:i=L.length) (hm:m=(L.length+7) / 8) (j:Nat) (hj:j=(L++Zne l d P).length) :
  HCon Tryz.prog Zch [.agg [.op 1000 0 0],.sl nl (some 2) (P.map pcA),Zqo l d] [.row false (wrR 0 m i),.row (nl0 m) ((Zat L).map u8)] (.tup [])
   [(1000,0,.row false (wrR (KE+1) ((j+7) / 8) j)),(1001,KE+1,.row (nl0 ((j+7) / 8)) ((Zat (L++Zne l d P)).map u8))] (KE+2):=by
 refine HCon.of' mix Tryz.func47 rfl Tryz.ntmps47 Zh2 Zh3 (by simp) ?_ ZlR ?_
 ·simp only [AV.gl.glL,AV.gl,Zqo,and_true,true_and]
  exact ⟨by omega,Zae _ _ Zec,Zae _ _ Zab,Zae _ _ Zab,Zae _ _ Zab,Zae _ _ Zab⟩
 unfold Zd4
 obtain ⟨C,hC⟩:∃ C,C=ZbM l:=⟨_,rfl⟩
 obtain ⟨D,hD⟩:∃ D,D=ZbM d:=⟨_,rfl⟩
 unfold Zqo
 rw [←hC,←hD]
 repeat (first | refine zR @List.length_map.{0,0} ?_ | exact zU @List.length_map.{0,0})
 obtain ⟨A,hA⟩:∃ A,A=P.map pcA:=⟨_,rfl⟩
 have hAl:A.length=P.length:=by rw [hA,List.length_map]
 rw [←hA]
 refine SWp.loop (α:=Nat × List Nat × Nat × Nat) (fun x=>mk 34 x.2.2.2 [(3,.op 3 1 0),(5,.op 5 2 0),(8,.sl nl (some 2) A),(9,int P.length),(10,int x.1)] [(1000,0,.row false (wrR x.2.2.1 ((x.2.1.length+7) / 8) x.2.1.length)),(1001,x.2.2.1,.row (nl0 ((x.2.1.length+7) / 8)) ((Zat x.2.1).map u8)),(3,1,.row false [.op 1000 0 0]),(5,2,.row false [.sl false none (l.map nA),.sl false none (C.map nA),.sl false none (d.map nA),.sl false none (D.map nA)])])
  (fun x=>x.1≤P.length∧x.2.1=L++(P.take x.1).flatMap (pcB l d)∧(∀ y∈x.2.1,y<2)∧x.2.1.length≤300000+78*x.1∧x.2.2.2≤3+300*x.1) (fun x=>P.length-x.1) (0,L,0,3) ⟨Nat.zero_le _,by simp,hL,by simpa using hl,by simp⟩ (Zau rfl ?_ ?_ ?_) ?_
 ·exact Nat.le_refl _
 iterate 2 (case _=>(first | exact yU (ja2 @hi @hm) | refine yR (ja2 @hi @hm) ?_))
 rintro ⟨k,X,g,gc⟩ ⟨hk,hX,hX2,hXl,hgc⟩ -
 simp only at hk hX hX2 hXl hgc
 by_cases ck:k<P.length
 ·have dk:decide ((k:Int)<(P.length:Int))=true:=decide_eq_true (by omega)
  obtain ⟨p,hp⟩:∃ p,p=P.getD k (0,0):=⟨_,rfl⟩
  have hpP:p∈P:=by
   have:P.getD k (0,0)=P[k]:=by simp [List.getD,ck]
   rw [hp,this];exact List.getElem_mem _
  have ho:=hok p hpP
  have hg:A.getD k .junk = .agg [.sc (.int .u16 (p.1:Int)),.sc (.int .u16 (p.2:Int))]:=by rw [hA,ZBE ck,←hp];rfl
  have htk:(P.take (k+1)).flatMap (pcB l d)=(P.take k).flatMap (pcB l d)++pcB l d p:=by
   rw [ZiP (d:=(0,0)) ck,←hp,List.flatMap_append];simp
  have hpl:=ZBD ol od l1 d1 ho
  obtain ⟨Y,hY⟩:∃ Y,Y=X++ZjJ l (Zig p):=⟨_,rfl⟩
  have hYl:Y.length≤X.length+39:=by
   rw [hY,List.length_append];have:=Zfz ol (Zo6 l1 ho);omega
  have hY2:∀ y∈Y,y<2:=fun y hy=>by rw [hY] at hy;exact (List.mem_append.1 hy).elim (hX2 y) (ZkR y)
  have p1:=Zed X (by omega) hX2 false l ol (Zig p) (Zo6 l1 ho) X.length ((X.length+7) / 8) rfl rfl Y.length (by rw [hY])
  rw [←hY,cdA,←hC] at p1
  have lc:=Zta p ho
  rw [pcA] at lc
  have ir:=ZuY p
  rw [pcA] at ir
  have hrS:∀ ρ,ren ρ (syA (Zig p))=syA (Zig p):=fun ρ=>rfl
  obtain ⟨S,hS⟩:∃ S,S=syA (Zig p):=⟨_,rfl⟩
  rw [←hS] at p1 lc hrS
  repeat (first | refine zR (ja3 @dk @hAl @hg) ?_ | exact zU (ja3 @dk @hAl @hg))
  refine Zay _ (.inl ⟨rfl,lc⟩) ?_
  repeat (first | refine zS ?_ | exact zT)
  refine Zag [(1000,0),(1001,g)] 2000 p1 (by simp) (by simp) ?_ ?_ ?_
  iterate 2 (case _=>(first | exact yU (ja3 @wrR.eq_1 iR @hrS) | refine yR (ja3 @wrR.eq_1 iR @hrS) ?_))
  by_cases c0:0<p.2
  ·have e0:decide (0<p.2)=true:=decide_eq_true c0
   rw [e0] at ir
   obtain ⟨Z,hZ⟩:∃ Z,Z=Y++ZjJ d (Znd p):=⟨_,rfl⟩
   have hZl:Z.length=X.length+(pcB l d p).length:=by rw [hZ,hY,pcB,if_pos c0];simp [Nat.add_assoc]
   have p2:=Zed Y (by omega) hY2 false d od (Znd p) (Zte d1 ho c0) Y.length ((Y.length+7) / 8) rfl rfl Z.length (by rw [hZ])
   rw [←hZ,cdA,←hD] at p2
   have dc:=Zqr p c0 (by have:=ho;simp only [ZkQ] at this;omega)
   rw [pcA] at dc
   have hrS2:∀ ρ,ren ρ (syA (Znd p))=syA (Znd p):=fun ρ=>rfl
   obtain ⟨S2,hS2⟩:∃ S2,S2=syA (Znd p):=⟨_,rfl⟩
   rw [←hS2] at p2 dc hrS2
   repeat (first | refine zR (ja2 @wrR.eq_1 iR) ?_ | exact zU (ja2 @wrR.eq_1 iR))
   refine Zay _ (.inl ⟨rfl,ir⟩) ?_
   repeat (first | refine zR (ja2 @wrR.eq_1 iR) ?_ | exact zU (ja2 @wrR.eq_1 iR))
   refine Zay _ (.inl ⟨rfl,dc⟩) ?_
   repeat (first | refine zR (ja2 @wrR.eq_1 iR) ?_ | exact zU (ja2 @wrR.eq_1 iR))
   refine Zag [(1000,0),(1001,gc+1+125)] 3000 p2 (by simp) (by simp) ?_ ?_ ?_
   iterate 2 (case _=>(first | exact yU (ja3 @wrR.eq_1 iR @hrS2) | refine yR (ja3 @wrR.eq_1 iR @hrS2) ?_))
   repeat (first | refine zR (ja2 @wrR.eq_1 iR) ?_ | exact zU (ja2 @wrR.eq_1 iR))
   refine At.of (k+1,Z,gc+1+126+125,gc+1+126+126) ⟨by simp only;omega,by simp only;rw [hZ,hY,htk,hX,pcB,if_pos c0];simp [List.append_assoc],fun y hy=>by simp only at hy;rw [hZ] at hy;exact (List.mem_append.1 hy).elim (hY2 y) (ZkR y),by simp only;omega,by simp only;omega⟩ (by simp only;omega) rfl rfl (Nat.le_refl _) ?_ ?_
   iterate 2 (case _=>(first | exact yU @wrR.eq_1 | refine yR @wrR.eq_1 ?_))
  ·have e0:decide (0<p.2)=false:=decide_eq_false c0
   rw [e0] at ir
   repeat (first | refine zR (ja2 @wrR.eq_1 iR) ?_ | exact zU (ja2 @wrR.eq_1 iR))
   refine Zay _ (.inl ⟨rfl,ir⟩) ?_
   repeat (first | refine zR (ja2 @wrR.eq_1 iR) ?_ | exact zU (ja2 @wrR.eq_1 iR))
   refine At.of (k+1,Y,gc+1+125,gc+1+126) ⟨by simp only;omega,by simp only;rw [hY,htk,hX,pcB,if_neg c0];simp [List.append_assoc],hY2,by simp only;omega,by simp only;omega⟩ (by simp only;omega) rfl rfl (Nat.le_refl _) ?_ ?_
   iterate 2 (case _=>(first | exact yU @wrR.eq_1 | refine yR @wrR.eq_1 ?_))
 ·have dk:decide ((k:Int)<(P.length:Int))=false:=decide_eq_false (by omega)
  rw [List.take_of_length_le (by omega)] at hX
  obtain ⟨Y,hY⟩:∃ Y,Y=X++ZjJ l (256,0,0):=⟨_,rfl⟩
  have hYe:L++Zne l d P=Y:=by rw [hY,hX,Zne];simp [List.append_assoc]
  have p1:=Zed X (by omega) hX2 false l ol (256,0,0) (Ztf l1) X.length ((X.length+7) / 8) rfl rfl Y.length (by rw [hY])
  rw [←hY,cdA,←hC] at p1
  have hsy:syA (256,0,0) = .agg [.sc (.int .i64 256),.sc (.int .i64 0),.sc (.int .i64 0)]:=rfl
  rw [hsy] at p1
  rw [hYe] at hj ⊢
  rw [hj]
  have hKE:=ZGx
  obtain ⟨z,hz⟩:∃ z,KE+1=z+125:=⟨KE-124,by omega⟩
  have hz2:KE+2=z+126:=by omega
  rw [hz,hz2]
  iterate 5 (first | refine zR @dk ?_ | exact zU @dk)
  refine SWp.le (Zau (N:=34) (gc:=z) (l:=[(3,.op 3 1 0),(5,.op 5 2 0)]) (h:=[(1000,0,.row false (wrR g ((X.length+7) / 8) X.length)),(1001,g,.row (nl0 ((X.length+7) / 8)) ((Zat X).map u8)),(3,1,.row false [.op 1000 0 0]),(5,2,.row false [.sl false none (l.map nA),.sl false none (C.map nA),.sl false none (d.map nA),.sl false none (D.map nA)])]) rfl ?_ ?_ ?_) ?_
  ·show gc≤z
   omega
  iterate 2 (case _=>(first | exact yT | refine yS ?_))
  repeat (first | refine zS ?_ | exact zT)
  refine Zag [(1000,0),(1001,g)] 2000 p1 (by simp) (by simp) ?_ ?_ ?_
  iterate 2 (case _=>(first | exact yU (ja2 @wrR.eq_1 iR) | refine yR (ja2 @wrR.eq_1 iR) ?_))
  repeat (first | refine zR (ja2 @wrR.eq_1 iR) ?_ | exact zU (ja2 @wrR.eq_1 iR))
theorem ZjK (v:Nat):∀ (n:Nat),Zg1 (Zbq v n)=v % 2^n
 | 0=>by simp [Zbq,Zg1,Nat.mod_one]
 | n+1=>by
  have e:Zbq v (n+1)=Zbq v n++[v / 2^n % 2]:=by simp [Zbq,List.range_succ]
  rw [e,ZeF,ZjK v n,Zap]
  simp only [Zg1,Nat.mul_zero,Nat.add_zero]
  rw [Nat.pow_succ,Nat.mod_mul]
theorem ZBF {c:UInt8}:Zg1 (Zfv c)=c.toNat:=by
 have:=ZjK c.toNat 8
 rw [Nat.mod_eq_of_lt (by have:=c.toNat_lt;omega)] at this
 exact this
theorem ZBG {X:List UInt8}:∀ (k:Nat),(Zah X).drop (8*k)=Zah (X.drop k):=by
 intro k
 have e:Zah X=Zah (X.take k)++Zah (X.drop k):=by rw [←Zbj,List.take_append_drop]
 rw [e]
 by_cases h:k≤X.length
 ·rw [List.drop_append_of_le_length (by rw [Zad,List.length_take];omega)]
  rw [List.drop_of_length_le (by rw [Zad,List.length_take];omega)]
  rfl
 ·rw [List.drop_of_length_le (i:=k) (by omega)]
  simp only [Zah,List.flatMap_nil,List.append_nil]
  exact List.drop_of_length_le (by have:=Zad (l:=X.take k);simp only [Zah] at this;rw [this,List.length_take];omega)
theorem ZfE {X:List UInt8}:Zat (Zah X)=X:=by
 refine List.ext_getElem (by rw [Za3,Zad];omega) fun k h1 h2=>?_
 rw [Za3,Zad] at h1
 simp only [Zat,List.getElem_map,List.getElem_range,Zhw]
 rw [ZBG,List.drop_eq_getElem_cons h2]
 have:(Zah (X[k]::X.drop (k+1))).take 8=Zfv X[k]:=by
  simp only [Zah,List.flatMap_cons]
  rw [List.take_append_of_le_length (by rw [ZbD];omega),List.take_of_length_le (by rw [ZbD];omega)]
 rw [this,ZBF]
 exact UInt8.ofNat_toNat
def ZGz (L:List Nat):List Nat:=L++List.replicate (8*((L.length+7) / 8)-L.length) 0
theorem Zu1 {L:List Nat}:(ZGz L).length=8*((L.length+7) / 8):=by rw [ZGz,List.length_append,List.length_replicate];omega
theorem Zqv:∀ (n:Nat),Zg1 (List.replicate n 0)=0
 | 0=>rfl
 | n+1=>by rw [List.replicate_succ,Zg1,Zqv n]
theorem ZBH {L:List Nat}:Zat (ZGz L)=Zat L:=by
 have hl:((ZGz L).length+7) / 8=(L.length+7) / 8:=by rw [Zu1];omega
 unfold Zat
 rw [hl]
 refine List.map_congr_left fun k hk=>?_
 have hk:=List.mem_range.1 hk
 by_cases h:8*k+8≤L.length
 ·exact Zic h
 ·unfold Zhw ZGz
  have e:8*((L.length+7) / 8)-L.length=8*k+8-L.length:=by omega
  rw [List.drop_append_of_le_length (by omega),e,List.take_of_length_le (by rw [List.length_append,List.length_drop,List.length_replicate];omega),List.take_of_length_le (by rw [List.length_drop];omega),ZeF,Zqv]
  simp
theorem ZlT [Tabs Tryz.prog] (B:List UInt8) (hB:B.length≤2000000) (i m:Nat) (hm:m=B.length) :
  HCon Tryz.prog Zdq [.op 1000 0 0] [.row false (wrR 0 m i),.row (nl0 m) (B.map u8)] (.tup [])
   [(1000,0,.row false (wrR 0 m (8*m))),(1001,0,.row (nl0 m) (B.map u8))] 1:=by
 refine HCon.of' mix Tryz.func79 rfl Tryz.ntmps79 ZkE ZkF (by simp) (by simp [AV.gl,AV.gl.glL]) ZlR ?_
 unfold Zf5
 have e:(m:Int)*8=((8*m:Nat):Int):=by omega
 repeat (first | refine xR (ja3 @wrR.eq_1 iR @e) ?_ | exact xU (ja3 @wrR.eq_1 iR @e))
theorem Zwc {a:Nat} {y:List UInt8}:(nl0 a&&(y.map u8).isEmpty)=nl0 (a+y.length):=by
 cases y with
 | nil=>simp
 | cons c y=>simp [nl0]
set_option maxRecDepth 100000 in
theorem Zu2 [Tabs Tryz.prog] (X:List UInt8) (hX:X.length≤1000000) (nl:Bool) (b:List UInt8) (hb:b.length≤1000000) (i m:Nat) (hm:m=X.length) :
  HCon Tryz.prog Zhf [.op 1000 0 0,.sl nl none (b.map u8)] [.row false (wrR 0 m i),.row (nl0 m) (X.map u8)] (.tup [])
   [(1000,0,.row false (wrR 1 (m+b.length) (8*(m+b.length)))),(1001,1,.row (nl0 (m+b.length)) ((X++b).map u8))] 3:=by
 refine HCon.of' mix Tryz.func81 rfl Tryz.ntmps81 Zmp Zmq (by simp) (by simp only [AV.gl,AV.gl.glL,and_true];exact ⟨by omega,Zae _ _ Zak⟩) ZlR ?_
 unfold Zhp
 have hadd:=Zwc (a:=m) (y:=b)
 obtain ⟨B,hB⟩:∃ B,B=X++b:=⟨_,rfl⟩
 have hBl:B.length=m+b.length:=by rw [hB,List.length_append,hm]
 have hrow:X.map u8++b.map u8=B.map u8:=by rw [hB,List.map_append]
 have al:=ZlT B (by omega) i (m+b.length) (by omega)
 rw [←hB]
 repeat (first | refine xR (ja3 @wrR.eq_1 @hadd @hrow) ?_ | exact xU (ja3 @wrR.eq_1 @hadd @hrow))
 refine Zag [(1000,0),(1001,1)] 2000 al (by simp) (by simp) ?_ ?_ ?_
 iterate 2 (case _=>(first | exact vU (ja2 @wrR.eq_1 iR) | refine vR (ja2 @wrR.eq_1 iR) ?_))
 repeat (first | refine xR (ja2 @wrR.eq_1 iR) ?_ | exact xU (ja2 @wrR.eq_1 iR))
set_option maxRecDepth 100000 in
theorem Zg3 [Tabs Tryz.prog] (L:List Nat) (hl:L.length≤1900000) (hL:∀ x∈L,x<2) (u v:Nat) (hu:u<2) (hv:v<4) (i m:Nat) (hi:i=L.length) (hm:m=(L.length+7) / 8) :
  HCon Tryz.prog ZbO [.agg [.op 1000 0 0],.sc (.int .i64 (u:Int)),.sc (.int .i64 (v:Int))] [.row false (wrR 0 m i),.row (nl0 m) ((Zat L).map u8)] (.tup [])
   [(1000,0,.row false (wrR 123 ((i+1+2+7) / 8) (i+1+2))),(1001,123,.row (nl0 ((i+1+2+7) / 8)) ((Zat (L++(Zbq u 1++Zbq v 2))).map u8))] 124:=by
 refine HCon.of' mix Tryz.func46 rfl Tryz.ntmps46 ZiJ ZiK (by simp) (by simp [AV.gl,AV.gl.glL]) ZlR ?_
 unfold Zep
 have p1:=ZfD L (by omega) hL u (by omega) 1 (by omega) i m hi hm
 have hL1:∀ x∈L++Zbq u 1,x<2:=fun x hx=>(List.mem_append.1 hx).elim (hL x) (Ze3 x)
 have hl1:(L++Zbq u 1).length=i+1:=by rw [List.length_append,Zap,hi]
 have p2:=ZfD (L++Zbq u 1) (by omega) hL1 v (by omega) 2 (by omega) (i+1) ((i+1+7) / 8) (by omega) (by omega)
 rw [List.append_assoc] at p2
 obtain ⟨b1,e1⟩:∃ b,b=Zat (L++Zbq u 1):=⟨_,rfl⟩
 obtain ⟨b2,e2⟩:∃ b,b=Zat (L++(Zbq u 1++Zbq v 2)):=⟨_,rfl⟩
 rw [←e1] at p1 p2
 rw [←e2] at p2 ⊢
 repeat (first | refine zS ?_ | exact zT)
 refine Zag [(1000,0),(1001,0)] 2000 p1 (by simp) (by simp) ?_ ?_ ?_
 iterate 2 (case _=>(first | exact yU @wrR.eq_1 | refine yR @wrR.eq_1 ?_))
 repeat (first | refine zR (ja2 @wrR.eq_1 iR) ?_ | exact zU (ja2 @wrR.eq_1 iR))
 refine Zag [(1000,0),(1001,62)] 3000 p2 (by simp) (by simp) ?_ ?_ ?_
 iterate 2 (case _=>(first | exact yU @wrR.eq_1 | refine yR @wrR.eq_1 ?_))
 repeat (first | refine zR (ja2 @wrR.eq_1 iR) ?_ | exact zU (ja2 @wrR.eq_1 iR))
def ZkS (last:Nat) (b:List UInt8):List UInt8 :=
 UInt8.ofNat last::UInt8.ofNat (b.length % 256)::UInt8.ofNat (b.length / 256)::UInt8.ofNat ((65535-b.length) % 256)::UInt8.ofNat ((65535-b.length) / 256)::b
theorem ZD2 {X:List UInt8} {c:UInt8}:Zah (X++[c])=Zah X++Zfv c:=by rw [Zbj];simp [Zah]
theorem Zyt {X:List UInt8} {u:Nat} (hu:u<2):Zat (Zah X++(Zbq u 1++Zbq 0 2))=X++[UInt8.ofNat u]:=by
 rw [←ZBH]
 have hl:(Zah X++(Zbq u 1++Zbq 0 2)).length=8*X.length+3:=by rw [List.length_append,Zad,List.length_append,Zap,Zap]
 have:ZGz (Zah X++(Zbq u 1++Zbq 0 2))=Zah (X++[UInt8.ofNat u]):=by
  unfold ZGz
  rw [hl,show 8*((8*X.length+3+7) / 8)-(8*X.length+3)=5 by omega,ZD2,List.append_assoc]
  congr 1
  obtain rfl | rfl:u=0∨u=1:=by omega
  ·decide
  ·decide
 rw [this,ZfE]
theorem ZGA {n:Nat} (h:n<65536):Zbq n 16=Zfv (UInt8.ofNat (n % 256))++Zfv (UInt8.ofNat (n / 256)):=by
 have e1:(UInt8.ofNat (n % 256)).toNat=n % 256:=by rw [UInt8.toNat_ofNat'];omega
 have e2:(UInt8.ofNat (n / 256)).toNat=n / 256:=by rw [UInt8.toNat_ofNat'];omega
 refine List.ext_getElem (by simp [Zbq,Zfv]) fun k h1 h2=>?_
 have hk:k<16:=by simpa [Zbq] using h1
 simp only [Zbq,List.getElem_map,List.getElem_range]
 by_cases c:k<8
 ·rw [List.getElem_append_left (by rw [ZbD];exact c)]
  simp only [Zfv,List.getElem_map,List.getElem_range,e1]
  have h8:2^k*2^(8-k)=256:=by rw [←Nat.pow_add,show k+(8-k)=8 by omega]
  rw [←h8,Nat.mod_mul_right_div_self]
  rw [show 8-k=(7-k)+1 by omega,Nat.pow_succ,Nat.mul_comm,Nat.mod_mul_right_mod]
 ·rw [List.getElem_append_right (by rw [ZbD];omega)]
  simp only [Zfv,List.getElem_map,List.getElem_range,e2,List.length_map,List.length_range]
  have h8:256*2^(k-8)=2^k:=by rw [show (256:Nat)=2^8 from rfl,←Nat.pow_add,show 8+(k-8)=k by omega]
  rw [Nat.div_div_eq_div_mul,h8]
theorem Zwd {X:List UInt8} {n:Nat} (h:n<65536):Zah X++Zbq n 16=Zah (X++[UInt8.ofNat (n % 256),UInt8.ofNat (n / 256)]):=by
 rw [ZGA h,Zbj]
 simp [Zah]
set_option maxRecDepth 100000 in
theorem Zfl [Tabs Tryz.prog] (X:List UInt8) (hX:X.length≤200000) (u:Nat) (hu:u<2) (nl:Bool) (b:List UInt8) (hb:b.length≤65535) (i m m':Nat) (hm:m=X.length) (hi:i=8*m) (hm':m'=m+5+b.length) :
  HCon Tryz.prog ZbA [.agg [.op 1000 0 0],.sc (.int .i64 (u:Int)),.sl nl none (b.map u8)] [.row false (wrR 0 m i),.row (nl0 m) (X.map u8)] (.tup [])
   [(1000,0,.row false (wrR 250 m' (8*m'))),(1001,250,.row (nl0 m') ((X++ZkS u b).map u8))] 252:=by
 refine HCon.of' mix Tryz.func45 rfl Tryz.ntmps45 Zft Zfu (by simp) (by simp only [AV.gl,AV.gl.glL,and_true,true_and];exact ⟨by omega,Zae _ _ Zak⟩) ZlR ?_
 unfold ZcE
 obtain ⟨n,hn⟩:∃ n,n=b.length:=⟨_,rfl⟩
 have p1:=Zg3 (Zah X) (by rw [Zad];omega) Zjw u 0 hu (by omega) i m (by rw [Zad];omega) (by rw [Zad];omega)
 rw [ZfE,Zyt hu] at p1
 obtain ⟨X1,hX1⟩:∃ Y,Y=X++[UInt8.ofNat u]:=⟨_,rfl⟩
 have l1:X1.length=m+1:=by rw [hX1];simp [hm]
 have em1:(i+1+2+7) / 8=m+1:=by omega
 rw [←hX1,em1] at p1
 have p2:=ZlT X1 (by omega) (i+1+2) (m+1) l1.symm
 have p3:=ZfD (Zah X1) (by rw [Zad];omega) Zjw n (by omega) 16 (by omega) (8*(m+1)) (m+1) (by rw [Zad];omega) (by rw [Zad];omega)
 rw [ZfE,Zwd (by omega),ZfE] at p3
 obtain ⟨X2,hX2⟩:∃ Y,Y=X1++[UInt8.ofNat (n % 256),UInt8.ofNat (n / 256)]:=⟨_,rfl⟩
 have l2:X2.length=m+3:=by rw [hX2];simp [l1]
 have em2:(8*(m+1)+16+7) / 8=m+3:=by omega
 have ei2:8*(m+1)+16=8*(m+3):=by omega
 rw [←hX2,em2,ei2] at p3
 have p4:=ZfD (Zah X2) (by rw [Zad];omega) Zjw (65535-n) (by omega) 16 (by omega) (8*(m+3)) (m+3) (by rw [Zad];omega) (by rw [Zad];omega)
 rw [ZfE,Zwd (by omega),ZfE] at p4
 obtain ⟨X3,hX3⟩:∃ Y,Y=X2++[UInt8.ofNat ((65535-n) % 256),UInt8.ofNat ((65535-n) / 256)]:=⟨_,rfl⟩
 have l3:X3.length=m+5:=by rw [hX3];simp [l2]
 have em3:(8*(m+3)+16+7) / 8=m+5:=by omega
 have ei3:8*(m+3)+16=8*(m+5):=by omega
 rw [←hX3,em3,ei3] at p4
 have p5:=Zu2 X3 (by omega) nl b (by omega) (8*(m+5)) (m+5) l3.symm
 have hfin:X3++b=X++ZkS u b:=by rw [hX3,hX2,hX1,hn];simp [ZkS]
 rw [hfin,←hm'] at p5
 obtain ⟨Y,hY⟩:∃ Y,Y=X++ZkS u b:=⟨_,rfl⟩
 rw [←hY] at p5 ⊢
 obtain ⟨n',hn'⟩:∃ n',n'=65535-n:=⟨_,rfl⟩
 have en:(65535:Int)-(n:Int)=(n':Int):=by omega
 rw [←hn'] at p4
 clear hfin hY hX3 hX2 hX1
 repeat (first | refine zS ?_ | exact zT)
 refine Zag [(1000,0),(1001,0)] 2000 p1 (by simp) (by simp) ?_ ?_ ?_
 iterate 2 (case _=>(first | exact yU @wrR.eq_1 | refine yR @wrR.eq_1 ?_))
 repeat (first | refine zR (ja2 @wrR.eq_1 iR) ?_ | exact zU (ja2 @wrR.eq_1 iR))
 refine Zag [(1000,0),(1001,125)] 3000 p2 (by simp) (by simp) ?_ ?_ ?_
 iterate 2 (case _=>(first | exact yU @wrR.eq_1 | refine yR @wrR.eq_1 ?_))
 repeat (first | refine zR (ja4 @wrR.eq_1 iR @List.length_map.{0,0} hn.symm) ?_ | exact zU (ja4 @wrR.eq_1 iR @List.length_map.{0,0} hn.symm))
 refine Zag [(1000,0),(1001,125)] 4000 p3 (by simp) (by simp) ?_ ?_ ?_
 iterate 2 (case _=>(first | exact yU @wrR.eq_1 | refine yR @wrR.eq_1 ?_))
 repeat (first | refine zR (ja5 @wrR.eq_1 iR @List.length_map.{0,0} hn.symm @en) ?_ | exact zU (ja5 @wrR.eq_1 iR @List.length_map.{0,0} hn.symm @en))
 refine Zag [(1000,0),(1001,187)] 5000 p4 (by simp) (by simp) ?_ ?_ ?_
 iterate 2 (case _=>(first | exact yU @wrR.eq_1 | refine yR @wrR.eq_1 ?_))
 repeat (first | refine zR (ja2 @wrR.eq_1 iR) ?_ | exact zU (ja2 @wrR.eq_1 iR))
 refine Zag [(1000,0),(1001,248)] 6000 p5 (by simp) (by simp) ?_ ?_ ?_
 iterate 2 (case _=>(first | exact yU @wrR.eq_1 | refine yR @wrR.eq_1 ?_))
 repeat (first | refine zR (ja2 @wrR.eq_1 iR) ?_ | exact zU (ja2 @wrR.eq_1 iR))
def stK (b:List UInt8):Nat→List UInt8
 | 0=>[]
 | k+1=>stK b k++ZkS 0 ((b.drop (65535*k)).take 65535)
def stL (b:List UInt8):List UInt8:=stK b ((b.length-1) / 65535)++ZkS 1 (b.drop (65535*((b.length-1) / 65535)))
theorem Zb0 {u:Nat} {b:List UInt8}:(ZkS u b).length=b.length+5:=rfl
theorem ZmJ {b:List UInt8}:∀ {k:Nat},65535*k≤b.length→(stK b k).length=65540*k
 | 0,_=>rfl
 | k+1,h=>by rw [stK,List.length_append,ZmJ (by omega),Zb0,List.length_take,List.length_drop];omega
set_option maxRecDepth 100000 in
theorem Zo7 [Tabs Tryz.prog] (nl:Bool) (b:List UInt8) (hb:b.length≤170000) (m':Nat) (hm':m'=(stL b).length) :
  HCon Tryz.prog ZdL [.agg [.op 1000 0 0],.sl nl none (b.map u8)] [.row false (wrR 0 0 0),.row true []] (.tup [])
   [(1000,0,.row false (wrR 2251 m' (8*m'))),(1001,2251,.row (nl0 m') ((stL b).map u8))] 2253:=by
 refine HCon.of' mix Tryz.func20 rfl Tryz.ntmps20 Zh0 Zh1 (by simp) (by simp only [AV.gl,AV.gl.glL,and_true,true_and];exact ⟨by omega,Zae _ _ Zak⟩) (ZlR (b:=[])) ?_
 unfold Zd3
 obtain ⟨n,hn⟩:∃ n,n=b.length:=⟨_,rfl⟩
 obtain ⟨Q,hQ⟩:∃ Q,Q=(n-1) / 65535:=⟨_,rfl⟩
 have hstL:stL b=stK b Q++ZkS 1 (b.drop (65535*Q)):=by rw [stL,←hn,←hQ]
 repeat (first | refine zS ?_ | exact zT)
 refine SWp.loop (α:=Nat × Nat × Nat) (fun x=>mk 16 x.2.2 [(1,.sl nl none ((b.drop (65535*x.1)).map u8)),(2,.op 2 1 0)] [(2,1,.row false [.op 1000 0 0]),(1000,0,.row false (wrR x.2.1 (65540*x.1) (8*(65540*x.1)))),(1001,x.2.1,.row (nl0 (65540*x.1)) ((stK b x.1).map u8))])
  (fun x=>x.1≤Q∧x.2.2≤2+252*x.1) (fun x=>Q-x.1) (0,0,2) ⟨Nat.zero_le _,by simp⟩ (Zau rfl ?_ ?_ ?_) ?_
 ·exact Nat.le_refl _
 iterate 2 (case _=>(first | exact yU (ja4 @wrR.eq_1 @stK.eq_1 @stK.eq_2 @Zbw) | refine yR (ja4 @wrR.eq_1 @stK.eq_1 @stK.eq_2 @Zbw) ?_))
 rintro ⟨k,g,gc⟩ ⟨hk,hgc⟩ -
 simp only at hk hgc
 obtain ⟨r,hr⟩:∃ r,r=b.drop (65535*k):=⟨_,rfl⟩
 have hrl:r.length=n-65535*k:=by rw [hr,List.length_drop,hn]
 have hkn:65535*k≤n:=by omega
 have hkl:(stK b k).length=65540*k:=ZmJ (by omega)
 obtain ⟨X,hX⟩:∃ X,X=stK b k:=⟨_,rfl⟩
 obtain ⟨m,hm⟩:∃ m,m=65540*k:=⟨_,rfl⟩
 rw [←hX,←hm] at hkl
 simp only [←hr,←hX,←hm]
 by_cases ck:65535<r.length
 ·have dk:decide ((65535:Int)<(r.length:Int))=true:=decide_eq_true (by omega)
  have p1:=Zfl X (by omega) 0 (by omega) nl (r.take 65535) (by rw [List.length_take];omega) (8*m) m (m+65540) hkl.symm rfl (by rw [List.length_take];omega)
  have hs1:X++ZkS 0 (r.take 65535)=stK b (k+1):=by rw [stK,←hX,←hr]
  rw [hs1] at p1
  have hd:r.drop 65535=b.drop (65535*(k+1)):=by rw [hr,List.drop_drop];congr 1
  have hm1:65540*(k+1)=m+65540:=by omega
  repeat (first | refine zR (ja2 @List.length_map.{0,0} @dk) ?_ | exact zU (ja2 @List.length_map.{0,0} @dk))
  refine Zag [(1000,0),(1001,g)] 2000 p1 (by simp) (by simp) ?_ ?_ ?_
  iterate 2 (case _=>(first | exact yU @wrR.eq_1 | refine yR @wrR.eq_1 ?_))
  repeat (first | refine zR (ja3 @wrR.eq_1 iR @List.length_map.{0,0}) ?_ | exact zU (ja3 @wrR.eq_1 iR @List.length_map.{0,0}))
  refine At.of (k+1,gc+250,gc+252) ⟨by simp only;omega,by simp only;omega⟩ (by simp only;omega) rfl rfl (Nat.le_refl _) ?_ ?_
  iterate 2 (case _=>(first | exact yU (ja3 @hd @wrR.eq_1 @hm1) | refine yR (ja3 @hd @wrR.eq_1 @hm1) ?_))
 ·have dk:decide ((65535:Int)<(r.length:Int))=false:=decide_eq_false (by omega)
  obtain rfl:k=Q:=by omega
  have p1:=Zfl X (by omega) 1 (by omega) nl r (by omega) (8*m) m m' hkl.symm rfl (by rw [hm',hstL,←hX,←hr,List.length_append,Zb0];omega)
  rw [hr,hX,←hstL,←hX,←hr] at p1
  iterate 5 (first | refine zR (ja2 @List.length_map.{0,0} @dk) ?_ | exact zU (ja2 @List.length_map.{0,0} @dk))
  refine SWp.le (Zau (N:=16) (gc:=2000) (l:=[(1,.sl nl none (r.map u8)),(2,.op 2 1 0)]) (h:=[(2,1,.row false [.op 1000 0 0]),(1000,0,.row false (wrR g m (8*m))),(1001,g,.row (nl0 m) (X.map u8))]) rfl ?_ ?_ ?_) ?_
  ·(first | exact yT | refine yS ?_)
   omega
  iterate 2 (case _=>(first | exact yT | refine yS ?_))
  refine SWp.renew 1001 g (o:=.row (nl0 m) (X.map u8)) (by (first | exact yT | refine yS ?_)) ?_
  refine SWp.le (Zau (N:=16) (gc:=2001) (l:=[(1,.sl nl none (r.map u8)),(2,.op 2 1 0)]) (h:=[(2,1,.row false [.op 1000 0 0]),(1000,0,.row false (wrR 2000 m (8*m))),(1001,2000,.row (nl0 m) (X.map u8))]) rfl ?_ ?_ ?_) ?_
  iterate 3 (case _=>(first | exact yU (ja3 @Zbm @wrR.eq_1 @Zbn) | refine yR (ja3 @Zbm @wrR.eq_1 @Zbn) ?_))
  repeat (first | refine zR @List.length_map.{0,0} ?_ | exact zU @List.length_map.{0,0})
  refine Zag [(1000,0),(1001,2000)] 3000 p1 (by simp) (by simp) ?_ ?_ ?_
  iterate 2 (case _=>(first | exact yU @wrR.eq_1 | refine yR @wrR.eq_1 ?_))
  repeat (first | refine zR (ja2 @wrR.eq_1 iR) ?_ | exact zU (ja2 @wrR.eq_1 iR))
def ZyJ (P:List (Nat × Nat)):List Nat:=Zbq 1 1++Zbq 1 2++Zne fxL fxD P
theorem Zki:286≤fxL.length∧30≤fxD.length:=by decide +kernel
set_option maxHeartbeats 1000000 in
set_option maxRecDepth 100000 in
theorem ZpI [Tabs Tryz.prog] (L:List Nat) (hl:L.length≤200000) (hL:∀ x∈L,x<2) (nl:Bool) (P:List (Nat × Nat)) (hP:P.length≤20000) (hok:∀ p∈P,ZkQ p) (i m:Nat) (hi:i=L.length) (hm:m=(L.length+7) / 8) (j:Nat) (hj:j=(L++ZyJ P).length) :
  HCon Tryz.prog Zem [.agg [.op 1000 0 0],.sl nl (some 2) (P.map pcA)] [.row false (wrR 0 m i),.row (nl0 m) ((Zat L).map u8)] (.tup [])
   [(1000,0,.row false (wrR (126+(KE+1)) ((j+7) / 8) j)),(1001,126+(KE+1),.row (nl0 ((j+7) / 8)) ((Zat (L++ZyJ P)).map u8))] (126+(KE+2)):=by
 refine HCon.of' mix Tryz.func21 rfl Tryz.ntmps21 ZiH ZiI (by simp) ?_ ZlR ?_
 ·simp only [AV.gl.glL,AV.gl,and_true,true_and]
  exact ⟨by omega,Zae _ _ Zec⟩
 unfold Zeo
 obtain ⟨X,hX⟩:∃ X,X=L++(Zbq 1 1++Zbq 1 2):=⟨_,rfl⟩
 obtain ⟨Y,hY⟩:∃ Y,Y=L++ZyJ P:=⟨_,rfl⟩
 have hXl:X.length=i+1+2:=by rw [hX,List.length_append,List.length_append,Zap,Zap,hi]
 have hX2:∀ x∈X,x<2:=fun x hx=>by
  rw [hX] at hx
  rcases List.mem_append.1 hx with hx | hx
  ·exact hL x hx
  ·rcases List.mem_append.1 hx with hx | hx <;> exact Ze3 x hx
 have hYe:X++Zne fxL fxD P=Y:=by rw [hX,hY,ZyJ];simp [List.append_assoc]
 have p1:=Zg3 L (by omega) hL 1 1 (by omega) (by omega) i m hi hm
 have p2:=Zjp X (by omega) hX2 nl P hP hok fxL fxD ZoZ Zs6 Zki.1 Zki.2 (i+1+2) ((i+1+2+7) / 8) hXl.symm (by rw [hXl]) j (by rw [hYe,hj,hY])
 have pf:=Zs7
 rw [hYe] at p2
 rw [←hY]
 rw [←hX] at p1
 have hrF:∀ ρ,ren ρ (Zqo fxL fxD)=Zqo fxL fxD:=fun ρ=>ZhN ρ _ Zo0
 obtain ⟨F,hF⟩:∃ F,F=Zqo fxL fxD:=⟨_,rfl⟩
 rw [←hF] at p2 pf hrF
 obtain ⟨A,hA⟩:∃ A,A=P.map pcA:=⟨_,rfl⟩
 have hrA:∀ ρ,ren.renL ρ A=A:=fun ρ=>by rw [hA];exact Zbb ρ _ Zec
 rw [←hA] at p2 ⊢
 repeat (first | refine zS ?_ | exact zT)
 refine Zag [(1000,0),(1001,0)] 2000 p1 (by simp) (by simp) ?_ ?_ ?_
 iterate 2 (case _=>(first | exact yU (ja2 @wrR.eq_1 iR) | refine yR (ja2 @wrR.eq_1 iR) ?_))
 repeat (first | refine zR (ja2 @wrR.eq_1 iR) ?_ | exact zU (ja2 @wrR.eq_1 iR))
 refine Zay _ (.inl ⟨rfl,pf⟩) ?_
 repeat (first | refine zR (ja2 @wrR.eq_1 iR) ?_ | exact zU (ja2 @wrR.eq_1 iR))
 refine Zag [(1000,0),(1001,125)] 3000 p2 (by simp) (by simp) ?_ ?_ ?_
 iterate 2 (case _=>(first | exact yU (ja4 @wrR.eq_1 iR @hrF @hrA) | refine yR (ja4 @wrR.eq_1 iR @hrF @hrA) ?_))
 repeat (first | refine zR (ja2 @wrR.eq_1 iR) ?_ | exact zU (ja2 @wrR.eq_1 iR))
def ZpJ (l:List Nat) (q:Nat):Nat→Nat
 | 0=>0
 | n+1=>if q<n+1∧l.getD n 0=0 then ZpJ l q n else n+1
def Zc2 (l:List Nat) (q:Nat):List Nat:=l.take (ZpJ l q l.length)
theorem Zo8 {l:List Nat} {q:Nat}:∀ {n:Nat},ZpJ l q n≤n
 | 0=>Nat.le_refl _
 | n+1=>by
  rw [ZpJ]
  split
  ·have:=Zo8 (l:=l) (q:=q) (n:=n);omega
  ·exact Nat.le_refl _
theorem ZBI {l:List Nat} {q:Nat}:∀ {n:Nat},q≤n→q≤ZpJ l q n
 | 0,h=>by rw [ZpJ];exact h
 | n+1,h=>by
  rw [ZpJ]
  split
  ·rename_i c;exact ZBI (by omega)
  ·exact h
set_option maxRecDepth 100000 in
theorem ZGB [Tabs Tryz.prog] (nl:Bool) (l:List Nat) (hl:l.length≤1000) (q:Nat) (hq:q≤1000):Con Tryz.prog Zfp [.sl nl none (l.map nA),.sc (.int .i64 (q:Int))] (.sl nl none ((Zc2 l q).map nA)):=by
 refine Con.of' mix Tryz.func93 rfl Tryz.ntmps93 Zq3 Zq4 (by simp) (by simp only [AV.free,AV.free.freeL,Zab,Bool.and_self]) (by simp only [AV.free,Zab]) ?_
 unfold ZlA
 obtain ⟨r,hr⟩:∃ r,r=ZpJ l q l.length:=⟨_,rfl⟩
 have hrl:r≤l.length:=by rw [hr];exact Zo8
 have hM:(Zc2 l q).map nA=(l.map nA).take r:=by rw [Zc2,←hr,Zf9]
 rw [hM]
 repeat (first | refine zR @List.length_map.{0,0} ?_ | exact zU @List.length_map.{0,0})
 refine SWp.loop (α:=Nat) (fun n=>mk 24 0 [(0,.sl nl none (l.map nA)),(1,.sc (.int .i64 (q:Int))),(5,int n)] [])
  (fun n=>n≤l.length∧r=ZpJ l q n) (fun n=>n) l.length ⟨Nat.le_refl _,hr⟩ (Zau rfl ?_ ?_ ?_) ?_
 ·exact Nat.le_refl _
 iterate 2 (case _=>(first | exact yT | refine yS ?_))
 rintro n ⟨hn,hrn⟩ -
 by_cases c1:q<n
 ·have d1:decide ((q:Int)<(n:Int))=true:=decide_eq_true (by omega)
  obtain ⟨k,rfl⟩:∃ k,n=k+1:=⟨n-1,by omega⟩
  have ek:((k+1:Nat):Int)-1=(k:Int):=by omega
  have hg:(l.map nA).getD k .junk = .sc (.int .i64 (l.getD k 0:Int)):=Zcm (by omega)
  rw [ZpJ] at hrn
  obtain ⟨n1,hn1⟩:∃ x,x=k+1:=⟨_,rfl⟩
  rw [←hn1] at d1 ek ⊢
  by_cases c2:l.getD k 0=0
  ·have d2:decide ((l.getD k 0:Int)=0)=true:=decide_eq_true (by omega)
   rw [if_pos ⟨c1,c2⟩] at hrn
   repeat (first | refine zR (ja5 @d1 @ek @hg @d2 @List.length_map.{0,0}) ?_ | exact zU (ja5 @d1 @ek @hg @d2 @List.length_map.{0,0}))
   refine At.of k ⟨by omega,hrn⟩ (by omega) rfl rfl (Nat.le_refl _) ?_ ?_
   iterate 2 (case _=>(first | exact yT | refine yS ?_))
  ·have d2:decide ((l.getD k 0:Int)=0)=false:=decide_eq_false (by omega)
   rw [if_neg (fun h=>c2 h.2),←hn1] at hrn
   repeat (first | refine zR (ja6 @d1 @ek @hg @d2 @List.length_map.{0,0} @hrn) ?_ | exact zU (ja6 @d1 @ek @hg @d2 @List.length_map.{0,0} @hrn))
 ·have d1:decide ((q:Int)<(n:Int))=false:=decide_eq_false (by omega)
  have hrn':r=n:=by
   rw [hrn]
   cases n with
   | zero=>rfl
   | succ k=>rw [ZpJ,if_neg (fun h=>c1 h.1)]
  repeat (first | refine zR (ja3 @d1 @List.length_map.{0,0} @hrn') ?_ | exact zU (ja3 @d1 @List.length_map.{0,0} @hrn'))
def ZpK (l:List Nat) (a:Nat):Nat→Nat→Nat
 | 0,n=>n
 | f+1,n=>if a+n<l.length∧l.getD (a+n) 0=l.getD a 0 then ZpK l a f (n+1) else n
theorem Zij {l:List Nat} {a:Nat}:∀ {f n:Nat},n≤ZpK l a f n∧(a+n≤l.length→a+ZpK l a f n≤l.length)∧∀ i,n≤i→i<ZpK l a f n→l.getD (a+i) 0=l.getD a 0
 | 0,n=>⟨Nat.le_refl _,fun h=>h,fun i h1 h2=>by rw [ZpK] at h2;omega⟩
 | f+1,n=>by
  rw [ZpK]
  split
  ·rename_i c
   obtain ⟨h1,h2,h3⟩:=Zij (l:=l) (a:=a) (f:=f) (n:=n+1)
   refine ⟨by omega,fun _=>h2 (by omega),fun i hi hi2=>?_⟩
   by_cases e:i=n
   ·rw [e];exact c.2
   ·exact h3 i (by omega) hi2
  ·exact ⟨Nat.le_refl _,fun h=>h,fun i h1 h2=>by omega⟩
def tlN (l:List Nat) (a:Nat):Nat:=ZpK l a l.length 1
def tlA (l:List Nat) (a:Nat):(Nat × Nat × Nat) × Nat :=
 if l.getD a 0=0∧11≤tlN l a then ((18,min (tlN l a) 138-11,7),min (tlN l a) 138)
 else if l.getD a 0=0∧3≤tlN l a then ((17,min (tlN l a) 10-3,3),min (tlN l a) 10)
 else if 0<a∧l.getD a 0=l.getD (a-1) 0∧3≤tlN l a then ((16,min (tlN l a) 6-3,2),min (tlN l a) 6)
 else ((l.getD a 0,0,0),1)
def tlV (x:(Nat × Nat × Nat) × Nat):AV:=.tup [syA x.1,.sc (.int .i64 (x.2:Int))]
set_option maxHeartbeats 1000000 in
set_option maxRecDepth 100000 in
theorem ZD3 [Tabs Tryz.prog] (nl:Bool) (l:List Nat) (hl:l.length≤1000) (h15:∀ x∈l,x≤15) (a:Nat) (ha:a<l.length):Con Tryz.prog Zip [.sl nl none (l.map nA),.sc (.int .i64 (a:Int))] (tlV (tlA l a)):=by
 refine Con.of' mix Tryz.func131 rfl Tryz.ntmps131 Znz ZnA (by simp) (by simp only [AV.free,AV.free.freeL,Zab,Bool.and_self]) rfl ?_
 unfold ZiB
 obtain ⟨R,hR⟩:∃ R,R=tlN l a:=⟨_,rfl⟩
 have hf:=Zij (l:=l) (a:=a) (f:=l.length) (n:=1)
 rw [←tlN,←hR] at hf
 obtain ⟨hf1,hf2,-⟩:=hf
 have hf2:=hf2 (by omega)
 obtain ⟨x,hx⟩:∃ x,x=l.getD a 0:=⟨_,rfl⟩
 have hgx:(l.map nA).getD a .junk = .sc (.int .i64 (x:Int)):=by rw [hx];exact Zcm ha
 have hO:tlA l a=if x=0∧11≤R then ((18,min R 138-11,7),min R 138) else if x=0∧3≤R then ((17,min R 10-3,3),min R 10) else if 0<a∧x=l.getD (a-1) 0∧3≤R then ((16,min R 6-3,2),min R 6) else ((x,0,0),1):=by rw [tlA,←hx,←hR]
 rw [hO]
 repeat (first | refine zS ?_ | exact zT)
 refine SWp.loop (α:=Nat) (fun n=>mk 90 1 [(0,.sl nl none (l.map nA)),(1,.sc (.int .i64 (a:Int))),(4,.op 4 0 0),(6,int n)] [(4,0,.row false [int 0,int 0,int 0])])
  (fun n=>1≤n∧n≤1000∧a+n≤l.length∧∃ f,l.length≤a+n+f∧R=ZpK l a f n) (fun n=>l.length-n) 1 ⟨Nat.le_refl _,by omega,by omega,l.length,by omega,hR⟩ (Zau rfl ?_ ?_ ?_) ?_
 ·exact Nat.le_refl _
 iterate 2 (case _=>(first | exact yU iR | refine yR iR ?_))
 rintro n ⟨hn1,hn2,hn3,f,hf3,hRf⟩ -
 obtain ⟨t,ht⟩:∃ t,t=a+n:=⟨_,rfl⟩
 have et:(a:Int)+(n:Int)=(t:Int):=by omega
 by_cases c0:t<l.length∧l.getD t 0=x
 ·obtain ⟨c1,c2⟩:=c0
  have d1:decide ((t:Int)<(l.length:Int))=true:=decide_eq_true (by omega)
  have hg:(l.map nA).getD t .junk = .sc (.int .i64 (l.getD t 0:Int)):=Zcm (by omega)
  obtain ⟨f,rfl⟩:∃ k,f=k+1:=⟨f-1,by omega⟩
  rw [ZpK,←ht,c2,←hx,if_pos ⟨c1,rfl⟩] at hRf
  rw [c2] at hg
  repeat (first | refine zR (ja5 @et @d1 @hg @hgx @List.length_map.{0,0}) ?_ | exact zU (ja5 @et @d1 @hg @hgx @List.length_map.{0,0}))
  refine At.of (n+1) ⟨by omega,by omega,by omega,f,by omega,hRf⟩ (by omega) rfl rfl (Nat.le_refl _) ?_ ?_
  iterate 2 (case _=>(first | exact yU iR | refine yR iR ?_))
 have hRn:R=n:=by
  rw [hRf]
  cases f with
  | zero=>rfl
  | succ f=>rw [ZpK,←ht,←hx,if_neg c0]
 subst hRn
 clear hO hR
 have hla:(a:Int)<(l.length:Int):=Int.ofNat_lt.2 ha
 by_cases c1:t<l.length
 have d1:decide ((t:Int)<(l.length:Int))=true:=decide_eq_true (by omega)
 have hg:(l.map nA).getD t .junk = .sc (.int .i64 (l.getD t 0:Int)):=Zcm (by omega)
 obtain ⟨y,hy⟩:∃ y,y=l.getD t 0:=⟨_,rfl⟩
 rw [←hy] at hg
 have d2:decide ((y:Int)=(x:Int))=false:=decide_eq_false (fun h=>c0 ⟨c1,by omega⟩)
 iterate 5 (first | refine zR (ja7 @et @d1 @hg @hgx @d2 @hla @List.length_map.{0,0}) ?_ | exact zU (ja7 @et @d1 @hg @hgx @d2 @hla @List.length_map.{0,0}))
 refine SWp.le (Zau (N:=90) (gc:=1) (l:=[(0,.sl nl none (l.map nA)),(1,.sc (.int .i64 (a:Int))),(4,.op 4 0 0),(6,int R)]) (h:=[(4,0,.row false [int 0,int 0,int 0])]) rfl ?_ ?_ ?_) ?_
 iterate 3 (case _=>(first | exact yU iR | refine yR iR ?_))
 rotate_left
 have d1:decide ((t:Int)<(l.length:Int))=false:=decide_eq_false (by omega)
 iterate 4 (first | refine zR (ja3 @et @d1 @List.length_map.{0,0}) ?_ | exact zU (ja3 @et @d1 @List.length_map.{0,0}))
 refine SWp.le (Zau (N:=90) (gc:=1) (l:=[(0,.sl nl none (l.map nA)),(1,.sc (.int .i64 (a:Int))),(4,.op 4 0 0),(6,int R)]) (h:=[(4,0,.row false [int 0,int 0,int 0])]) rfl ?_ ?_ ?_) ?_
 iterate 3 (case _=>(first | exact yU iR | refine yR iR ?_))
 all_goals
  clear d1
  have m1:(if (138:Int)<(R:Int) then 138 else (R:Int))=((min R 138:Nat):Int):=by split <;> omega
  have m2:(if (10:Int)<(R:Int) then 10 else (R:Int))=((min R 10:Nat):Int):=by split <;> omega
  have m3:(if (6:Int)<(R:Int) then 6 else (R:Int))=((min R 6:Nat):Int):=by split <;> omega
  by_cases x0:x=0
  ·have e1:decide ((x:Int)=0)=true:=decide_eq_true (by omega)
   by_cases r1:11≤R
   ·have e2:decide ((11:Int)≤(R:Int))=true:=decide_eq_true (by omega)
    obtain ⟨u,hu⟩:∃ u,u=min R 138:=⟨_,rfl⟩
    rw [←hu] at m1
    have eu:(u:Int)-11=((u-11:Nat):Int):=by omega
    rw [if_pos (show x=0∧11≤R from ⟨x0,r1⟩),←hu]
    repeat (first | refine zR (ja8 @hgx @e1 @e2 @m1 @eu @tlV.eq_1 @syA.eq_1 (ja2 iR @List.length_map.{0,0})) ?_ | exact zU (ja8 @hgx @e1 @e2 @m1 @eu @tlV.eq_1 @syA.eq_1 (ja2 iR @List.length_map.{0,0})))
   have e2:decide ((11:Int)≤(R:Int))=false:=decide_eq_false (by omega)
   rw [if_neg (show ¬(x=0∧11≤R) from fun h=>r1 h.2)]
   by_cases r2:3≤R
   ·have e3:decide ((3:Int)≤(R:Int))=true:=decide_eq_true (by omega)
    rw [show min R 10=R by omega] at m2
    have eu:(R:Int)-3=((R-3:Nat):Int):=by omega
    rw [if_pos (show x=0∧3≤R from ⟨x0,r2⟩)]
    repeat (first | refine zR (ja8 @hgx @e1 @e2 @e3 @m2 @eu @tlV.eq_1 (ja3 @syA.eq_1 iR @List.length_map.{0,0})) ?_ | exact zU (ja8 @hgx @e1 @e2 @e3 @m2 @eu @tlV.eq_1 (ja3 @syA.eq_1 iR @List.length_map.{0,0})))
   have e3:decide ((3:Int)≤(R:Int))=false:=decide_eq_false (by omega)
   rw [if_neg (show ¬(x=0∧3≤R) from fun h=>r2 h.2),if_neg (show ¬(0<a∧x=l.getD (a-1) 0∧3≤R) from fun h=>r2 h.2.2)]
   by_cases a0:0<a
   ·have e4:decide ((0:Int)<(a:Int))=true:=decide_eq_true (by omega)
    obtain ⟨w,hw⟩:∃ w,w=a-1:=⟨_,rfl⟩
    have ew:(a:Int)-1=(w:Int):=by omega
    have hgw:(l.map nA).getD w .junk = .sc (.int .i64 (l.getD w 0:Int)):=Zcm (by omega)
    obtain ⟨v,hv⟩:∃ v,v=l.getD w 0:=⟨_,rfl⟩
    rw [←hv] at hgw
    by_cases v0:x=v
    ·have e5:decide ((x:Int)=(v:Int))=true:=decide_eq_true (by omega)
     repeat (first | refine zR (ja8 @hgx @hgw @e1 @e2 @e3 @e4 @e5 (ja5 @ew @tlV.eq_1 @syA.eq_1 iR @List.length_map.{0,0})) ?_ | exact zU (ja8 @hgx @hgw @e1 @e2 @e3 @e4 @e5 (ja5 @ew @tlV.eq_1 @syA.eq_1 iR @List.length_map.{0,0})))
    ·have e5:decide ((x:Int)=(v:Int))=false:=decide_eq_false (by omega)
     repeat (first | refine zR (ja8 @hgx @hgw @e1 @e2 @e3 @e4 @e5 (ja5 @ew @tlV.eq_1 @syA.eq_1 iR @List.length_map.{0,0})) ?_ | exact zU (ja8 @hgx @hgw @e1 @e2 @e3 @e4 @e5 (ja5 @ew @tlV.eq_1 @syA.eq_1 iR @List.length_map.{0,0})))
   ·have e4:decide ((0:Int)<(a:Int))=false:=decide_eq_false (by omega)
    repeat (first | refine zR (ja8 @hgx @e1 @e2 @e3 @e4 @tlV.eq_1 @syA.eq_1 (ja2 iR @List.length_map.{0,0})) ?_ | exact zU (ja8 @hgx @e1 @e2 @e3 @e4 @tlV.eq_1 @syA.eq_1 (ja2 iR @List.length_map.{0,0})))
  have e1:decide ((x:Int)=0)=false:=decide_eq_false (by omega)
  rw [if_neg (show ¬(x=0∧11≤R) from fun h=>x0 h.1),if_neg (show ¬(x=0∧3≤R) from fun h=>x0 h.1)]
  by_cases a0:0<a
  ·have e4:decide ((0:Int)<(a:Int))=true:=decide_eq_true (by omega)
   obtain ⟨w,hw⟩:∃ w,w=a-1:=⟨_,rfl⟩
   have ew:(a:Int)-1=(w:Int):=by omega
   have hgw:(l.map nA).getD w .junk = .sc (.int .i64 (l.getD w 0:Int)):=Zcm (by omega)
   obtain ⟨v,hv⟩:∃ v,v=l.getD w 0:=⟨_,rfl⟩
   rw [←hv] at hgw
   rw [←hw,←hv]
   by_cases v0:x=v
   ·have e5:decide ((x:Int)=(v:Int))=true:=decide_eq_true (by omega)
    by_cases r2:3≤R
    ·have e3:decide ((3:Int)≤(R:Int))=true:=decide_eq_true (by omega)
     obtain ⟨u,hu⟩:∃ u,u=min R 6:=⟨_,rfl⟩
     rw [←hu] at m3
     have eu:(u:Int)-3=((u-3:Nat):Int):=by omega
     rw [if_pos (show 0<a∧x=v∧3≤R from ⟨a0,v0,r2⟩),←hu]
     repeat (first | refine zR (ja8 @hgx @hgw @e1 @e3 @e4 @e5 @m3 (ja6 @eu @ew @tlV.eq_1 @syA.eq_1 iR @List.length_map.{0,0})) ?_ | exact zU (ja8 @hgx @hgw @e1 @e3 @e4 @e5 @m3 (ja6 @eu @ew @tlV.eq_1 @syA.eq_1 iR @List.length_map.{0,0})))
    ·have e3:decide ((3:Int)≤(R:Int))=false:=decide_eq_false (by omega)
     rw [if_neg (show ¬(0<a∧x=v∧3≤R) from fun h=>r2 h.2.2)]
     repeat (first | refine zR (ja8 @hgx @hgw @e1 @e3 @e4 @e5 @ew (ja4 @tlV.eq_1 @syA.eq_1 iR @List.length_map.{0,0})) ?_ | exact zU (ja8 @hgx @hgw @e1 @e3 @e4 @e5 @ew (ja4 @tlV.eq_1 @syA.eq_1 iR @List.length_map.{0,0})))
   ·have e5:decide ((x:Int)=(v:Int))=false:=decide_eq_false (by omega)
    rw [if_neg (show ¬(0<a∧x=v∧3≤R) from fun h=>v0 h.2.1)]
    repeat (first | refine zR (ja8 @hgx @hgw @e1 @e4 @e5 @ew @tlV.eq_1 (ja3 @syA.eq_1 iR @List.length_map.{0,0})) ?_ | exact zU (ja8 @hgx @hgw @e1 @e4 @e5 @ew @tlV.eq_1 (ja3 @syA.eq_1 iR @List.length_map.{0,0})))
  ·have e4:decide ((0:Int)<(a:Int))=false:=decide_eq_false (by omega)
   rw [if_neg (show ¬(0<a∧x=l.getD (a-1) 0∧3≤R) from fun h=>a0 h.1)]
   repeat (first | refine zR (ja7 @hgx @e1 @e4 @tlV.eq_1 @syA.eq_1 iR @List.length_map.{0,0}) ?_ | exact zU (ja7 @hgx @e1 @e4 @tlV.eq_1 @syA.eq_1 iR @List.length_map.{0,0}))
structure TlOk (s:Nat × Nat × Nat):Prop where
 num:s.1<19
 more:s.2.1≤127
 bits:s.2.2≤7
theorem Zwe {l:List Nat} (h15:∀ x∈l,x≤15) {a:Nat} (ha:a<l.length):TlOk (tlA l a).1∧1≤(tlA l a).2∧a+(tlA l a).2≤l.length:=by
 obtain ⟨h1,h2,-⟩:=Zij (l:=l) (a:=a) (f:=l.length) (n:=1)
 rw [←tlN] at h1 h2
 have h2:=h2 (by omega)
 have hx:=Zjo h15 ha
 unfold tlA
 split
 ·exact ⟨⟨by simp only;omega,by simp only;omega,by simp only;omega⟩,by simp only;omega,by simp only;omega⟩
 split
 ·exact ⟨⟨by simp only;omega,by simp only;omega,by simp only;omega⟩,by simp only;omega,by simp only;omega⟩
 split
 ·exact ⟨⟨by simp only;omega,by simp only;omega,by simp only;omega⟩,by simp only;omega,by simp only;omega⟩
 ·exact ⟨⟨by simp only;omega,by simp only;omega,by simp only;omega⟩,by simp only;omega,by simp only;omega⟩
def Zl3 (l:List Nat):Nat→Nat→List (Nat × Nat × Nat)→List (Nat × Nat × Nat)
 | 0,_,T=>T
 | f+1,a,T=>if a<l.length then Zl3 l f (a+(tlA l a).2) (T++[(tlA l a).1]) else T
def tls (l:List Nat):List (Nat × Nat × Nat):=Zl3 l l.length 0 []
theorem ZBJ {l:List Nat} (h15:∀ x∈l,x≤15):∀ {f a:Nat} {T:List (Nat × Nat × Nat)},(∀ s∈T,TlOk s)→T.length≤a→a≤l.length→(∀ s∈Zl3 l f a T,TlOk s)∧(Zl3 l f a T).length≤l.length
 | 0,a,T,h,h1,h2=>⟨h,by rw [Zl3];omega⟩
 | f+1,a,T,h,h1,h2=>by
  rw [Zl3]
  split
  ·rename_i c
   obtain ⟨o1,o2,o3⟩:=Zwe h15 c
   refine ZBJ h15 (fun s hs=>?_) (by rw [List.length_append,List.length_singleton];omega) (by omega)
   rcases List.mem_append.1 hs with hs | hs
   ·exact h s hs
   ·rw [List.mem_singleton] at hs;rw [hs];exact o1
  ·exact ⟨h,by omega⟩
theorem Zwf {l:List Nat} (h15:∀ x∈l,x≤15):(∀ s∈tls l,TlOk s)∧(tls l).length≤l.length:=ZBJ h15 (by simp) (by simp) (Nat.zero_le _)
def syC (l:List (Nat × Nat × Nat)):List AV:=l.flatMap fun s=>[.sc (.int .i64 (s.1:Int)),.sc (.int .i64 (s.2.1:Int)),.sc (.int .i64 (s.2.2:Int))]
theorem Zyu {a b:List (Nat × Nat × Nat)}:syC (a++b)=syC a++syC b:=by simp [syC]
theorem ZmK:∀ {l:List (Nat × Nat × Nat)},(syC l).length=l.length*3
 | []=>rfl
 | p::l=>by rw [show syC (p::l)=[.sc (.int .i64 (p.1:Int)),.sc (.int .i64 (p.2.1:Int)),.sc (.int .i64 (p.2.2:Int))]++syC l from rfl,List.length_append,ZmK];simp;omega
theorem Zyv {l:List (Nat × Nat × Nat)}:chunks (some 3) l.length (syC l)=l.map syA:=by
 have h:=ZhM (es:=some 3) (l.map syA) (fun x hx=>by
  obtain ⟨p,_,rfl⟩:=List.mem_map.1 hx
  exact ⟨_,rfl,rfl⟩)
 rw [List.length_map,List.flatMap_map] at h
 exact h
theorem Zrv {l:List (Nat × Nat × Nat)}:AV.free.freeL (l.map syA)=true:=Zba.2 fun x hx=>by
 obtain ⟨p,_,rfl⟩:=List.mem_map.1 hx;rfl
set_option maxHeartbeats 1000000 in
set_option maxRecDepth 100000 in
theorem ZBK [Tabs Tryz.prog] (nl:Bool) (l:List Nat) (hl:l.length≤1000) (h15:∀ x∈l,x≤15):Con Tryz.prog Zhe [.sl nl none (l.map nA)] (.sl (nl0 (tls l).length) (some 3) ((tls l).map syA)):=by
 refine Con.of' mix Tryz.func94 rfl Tryz.ntmps94 Zmr Zms (by simp) (by simp only [AV.free,AV.free.freeL,Zab,Bool.and_self]) (by simp only [AV.free];exact Zrv) ?_
 unfold Zhu
 obtain ⟨R,hR⟩:∃ R,R=tls l:=⟨_,rfl⟩
 rw [←hR]
 iterate 4 (first | refine zS ?_ | exact zT)
 refine SWp.adopt 3 (some 3) (by (first | exact yT | refine yS ?_)) ?_
 repeat (first | refine zS ?_ | exact zT)
 refine SWp.loop (α:=Nat × List (Nat × Nat × Nat) × Nat × Nat) (fun x=>mk 25 x.2.2.2 [(0,.sl nl none (l.map nA)),(3,.own 3 x.2.2.1 (some 3) 0 x.2.1.length),(4,int x.1)] [(3,x.2.2.1,.row (nl0 x.2.1.length) (syC x.2.1))])
  (fun x=>x.1≤l.length∧x.2.1.length≤x.1∧∃ f,l.length≤x.1+f∧R=Zl3 l f x.1 x.2.1) (fun x=>l.length-x.1) (0,[],0,1) ⟨Nat.zero_le _,Nat.zero_le _,l.length,by simp,hR⟩ (Zau rfl ?_ ?_ ?_) ?_
 ·exact Nat.le_refl _
 ·(first | exact yT | refine yS ?_)
 ·(first | exact yU @Zbw | refine yR @Zbw ?_)
  try rfl
 rintro ⟨a,T,g,gc⟩ ⟨ha,hT,f,hf,hRf⟩ -
 simp only at ha hT hf hRf
 by_cases c:a<l.length
 ·have d:decide ((a:Int)<(l.length:Int))=true:=decide_eq_true (by omega)
  obtain ⟨f,rfl⟩:∃ k,f=k+1:=⟨f-1,by omega⟩
  rw [Zl3,if_pos c] at hRf
  obtain ⟨o1,o2,o3⟩:=Zwe h15 c
  have tc:=ZD3 nl l hl h15 a c
  obtain ⟨r,hr⟩:∃ r,r=tlA l a:=⟨_,rfl⟩
  rw [←hr] at o1 o2 o3 hRf tc
  obtain ⟨⟨u,v,w⟩,n⟩:=r
  simp only [tlV,syA] at o2 o3 hRf tc
  have hfl:List.flatMap (fun x=>(Zaq x).getD []) [AV.agg [.sc (.int .i64 (u:Int)),.sc (.int .i64 (v:Int)),.sc (.int .i64 (w:Int))]]=[.sc (.int .i64 (u:Int)),.sc (.int .i64 (v:Int)),.sc (.int .i64 (w:Int))]:=rfl
  have hcl:syC T++[.sc (.int .i64 (u:Int)),.sc (.int .i64 (v:Int)),.sc (.int .i64 (w:Int))]=syC (T++[(u,v,w)]):=by rw [Zyu];rfl
  have hsl:(syC T).length=T.length*3:=ZmK
  have hnl:nl0 (T.length+1)=false:=Zcg (by omega)
  have hTl:(T++[(u,v,w)]).length=T.length+1:=by simp
  repeat (first | refine zR (ja2 @d @List.length_map.{0,0}) ?_ | exact zU (ja2 @d @List.length_map.{0,0}))
  refine Zay _ (.inl ⟨by simp only [AV.free,AV.free.freeL,Zab,Bool.and_self],tc⟩) ?_
  repeat (first | refine zS ?_ | exact zT)
  refine ⟨⟨_,rfl,rfl⟩,⟨fun w hw=>⟨_,List.mem_singleton.1 hw⟩,hsl.symm,by omega,by omega⟩,?_⟩
  repeat (first | refine zR (ja2 @hfl @hcl) ?_ | exact zU (ja2 @hfl @hcl))
  refine At.of (a+n,T++[(u,v,w)],gc+1,gc+2) ⟨by simp only;omega,by simp only;rw [hTl];omega,f,by simp only;omega,hRf⟩ (by simp only;omega) rfl rfl (Nat.le_refl _) ?_ ?_
  iterate 2 (case _=>(first | exact yU (ja2 @hTl @hnl) | refine yR (ja2 @hTl @hnl) ?_))
 ·have d:decide ((a:Int)<(l.length:Int))=false:=decide_eq_false (by omega)
  have hRT:R=T:=by
   rw [hRf]
   cases f with
   | zero=>rfl
   | succ f=>rw [Zl3,if_neg c]
  have hcn:chunks (some 3) T.length (syC T)=T.map syA:=Zyv
  have hsl:(syC T).length=T.length*3:=ZmK
  rw [hRT]
  repeat (first | refine zR (ja4 @d @List.length_map.{0,0} @hcn @hsl) ?_ | exact zU (ja4 @d @List.length_map.{0,0} @hcn @hsl))
def ctN (n:Nat) (S:List Nat):List Nat:=(List.range n).map fun i=>S.count i
theorem Zbl {n:Nat} {S:List Nat}:(ctN n S).length=n:=by simp [ctN]
theorem ZkT {n u:Nat} {S:List Nat} (h:u<n):(ctN n S).getD u 0=S.count u:=by simp [ctN,List.getD,h]
theorem ZlU {n u:Nat} {S:List Nat} (h:u<n):(ctN n S).set u (S.count u+1)=ctN n (S++[u]):=by
 rw [ctN,Zv3 (f:=fun i=>S.count i) h,ctN]
 refine List.map_congr_left fun i _=>?_
 rw [List.count_append,List.count_singleton]
 by_cases c:i=u
 ·subst c;simp
 ·simp [c,Ne.symm c]
theorem ZBL {n q:Nat} {S:List Nat} (hn:n≤300) (hS:S.length≤100000) (h1:1≤q) (h2:q≤15) (h3:n≤2^q):CtOk (ctN n S) q:=by
 refine ⟨by rw [Zbl];exact hn,fun x hx=>?_,h1,h2,by rw [Zbl];exact h3⟩
 obtain ⟨i,_,rfl⟩:=List.mem_map.1 hx
 exact Nat.le_trans List.count_le_length hS
theorem ZGC {n:Nat}:ctN n []=List.replicate n 0:=by
 rw [ctN]
 refine List.ext_getElem (by simp) fun i h1 h2=>by simp
theorem Zo9 {n:Nat}:(List.replicate n [AV.sc (.int .i64 0)]).flatten=(ctN n []).map nA:=by rw [ZsI,ZGC]
def ctT (T:List (Nat × Nat × Nat)):List Nat:=ctN 19 (T.map (·.1))
theorem Zwg {T:List (Nat × Nat × Nat)} (h:T.length≤1000):CtOk (ctT T) 7:=ZBL (by omega) (by rw [List.length_map];omega) (by omega) (by omega) (by omega)
theorem ZBM {l:List (Nat × Nat × Nat)} {i:Nat} (h:i<l.length):(l.map syA).getD i .junk=syA (l.getD i (0,0,0)):=by simp [List.getD,h]
set_option maxHeartbeats 1000000 in
set_option maxRecDepth 100000 in
theorem Ztg [Tabs Tryz.prog] (nl:Bool) (T:List (Nat × Nat × Nat)) (hT:T.length≤1000) (hok:∀ s∈T,TlOk s):Con Tryz.prog Ze7 [.sl nl (some 3) (T.map syA)] (cdA false (ZcU (ctT T) 7)):=by
 refine Con.of' mix Tryz.func95 rfl Tryz.ntmps95 Zj4 Zj5 (by simp) (by simp only [AV.free,AV.free.freeL,Zrv,Bool.and_self]) Zrq ?_
 unfold Zfk
 have bc:=ZmG false (ctT T) 7 (Zwg hT)
 unfold cdA at bc
 obtain ⟨F,hF⟩:∃ F,F=ZcU (ctT T) 7:=⟨_,rfl⟩
 rw [←hF] at bc ⊢
 have hz:=Zo9 (n:=19)
 repeat (first | refine xR (ja2 @hz @List.length_map.{0,0}) ?_ | exact xU (ja2 @hz @List.length_map.{0,0}))
 obtain ⟨A,hA⟩:∃ A,A=T.map syA:=⟨_,rfl⟩
 have hAl:A.length=T.length:=by rw [hA,List.length_map]
 rw [←hA]
 refine SWp.loop (α:=Nat × List Nat × Nat) (fun x=>mk 23 x.2.2 [(2,.op 2 0 0),(3,.own 6 1 none 0 19),(7,.sl nl (some 3) A),(8,int T.length),(9,int x.1)] [(2,0,.row false [.sc (.slice none 0 0),.sc (.slice none 0 0)]),(6,1,.row false (x.2.1.map nA))])
  (fun x=>x.1≤T.length∧x.2.1=ctN 19 ((T.take x.1).map (·.1))∧x.2.2=2+x.1) (fun x=>T.length-x.1) (0,ctN 19 [],2) ⟨Nat.zero_le _,by simp,by simp⟩ (Zau rfl ?_ ?_ ?_) ?_
 ·exact Nat.le_refl _
 iterate 2 (case _=>(first | exact vT | refine vS ?_))
 rintro ⟨k,c,gc⟩ ⟨hk,hc,hgc⟩ -
 simp only at hk hc hgc
 have hcl:c.length=19:=by rw [hc,Zbl]
 by_cases ck:k<T.length
 ·have dk:decide ((k:Int)<(T.length:Int))=true:=decide_eq_true (by omega)
  obtain ⟨s,hs⟩:∃ s,s=T.getD k (0,0,0):=⟨_,rfl⟩
  have hsT:s∈T:=by
   have:T.getD k (0,0,0)=T[k]:=by simp [List.getD,ck]
   rw [hs,this];exact List.getElem_mem _
  have hg:A.getD k .junk = .agg [.sc (.int .i64 (s.1:Int)),.sc (.int .i64 (s.2.1:Int)),.sc (.int .i64 (s.2.2:Int))]:=by rw [hA,ZBM ck,←hs];rfl
  have htk:(T.take (k+1)).map (·.1)=(T.take k).map (·.1)++[s.1]:=by rw [ZiP (d:=(0,0,0)) ck,←hs,List.map_append];rfl
  have hu:=(hok s hsT).num
  have hsn:=ZlU (S:=(T.take k).map (·.1)) hu
  rw [←htk,←hc] at hsn
  have hcv:((T.take k).map (·.1)).count s.1≤1000:=Nat.le_trans List.count_le_length (by rw [List.length_map,List.length_take];omega)
  obtain ⟨u,hue⟩:∃ u,u=s.1:=⟨_,rfl⟩
  obtain ⟨v,hv⟩:∃ v,v=((T.take k).map (·.1)).count s.1:=⟨_,rfl⟩
  have hgv:(c.map nA).getD u .junk = .sc (.int .i64 (v:Int)):=by rw [Zcm (by omega),hc,ZkT (by omega),hv,hue]
  rw [←hv,←hue] at hsn
  rw [←hv] at hcv
  rw [←hue] at hg hu
  obtain ⟨v1,hv1⟩:∃ v1,v1=v+1:=⟨_,rfl⟩
  rw [←hv1] at hsn
  have hev:(v:Int)+1=(v1:Int):=by omega
  have hsp:=Zcq (l:=c) (k:=u) (x:=v1) (by omega)
  rw [hsn] at hsp
  obtain ⟨c2,hc2⟩:∃ c2,c2=ctN 19 ((T.take (k+1)).map (·.1)):=⟨_,rfl⟩
  rw [←hc2,←Zf9,←Zg0] at hsp
  repeat (first | refine xR (ja8 @dk @hAl @hg @hgv @hev @hsp @hcl @List.length_map.{0,0}) ?_ | exact xU (ja8 @dk @hAl @hg @hgv @hev @hsp @hcl @List.length_map.{0,0}))
  refine At.of (k+1,c2,gc+1) ⟨by simp only;omega,hc2,by simp only;omega⟩ (by simp only;omega) rfl rfl (Nat.le_refl _) ?_ ?_
  iterate 2 (case _=>(first | exact vU @hsp | refine vR @hsp ?_))
 ·have dk:decide ((k:Int)<(T.length:Int))=false:=decide_eq_false (by omega)
  rw [List.take_of_length_le (by omega)] at hc
  obtain rfl:c=ctT T:=hc
  repeat (first | refine xR (ja2 @dk @hAl) ?_ | exact xU (ja2 @dk @hAl))
  refine Zfo 6 1 (nl:=false) (cells:=(ctT T).map nA) [.sl false none ((ctT T).map nA),int ((7:Nat):Int)] _ (by (first | exact vT | refine vS ?_)) (by (first | exact vU @Zab | refine vR @Zab ?_)) ?_ (by (first | exact vU @Zab | refine vR @Zab ?_)) bc ?_
  ·(first | exact vU (ja3 fR iR @hcl) | refine vR (ja3 fR iR @hcl) ?_)
  repeat (first | refine xR (ja3 fR iR @cdA.eq_1) ?_ | exact xU (ja3 fR iR @cdA.eq_1))
def Zpa (P:List (Nat × Nat)):List Nat:=P.map fun p=>(Zig p).1
def Zyw (P:List (Nat × Nat)):List Nat:=(P.filter fun p=>decide (0<p.2)).map fun p=>(Znd p).1
def ZkU (P:List (Nat × Nat)):List Nat:=ctN 286 (Zpa P++[256]++if P.length=0 then [0] else [])
def Zu3 (P:List (Nat × Nat)):List Nat:=ctN 30 (Zyw P)
theorem Zik {P:List (Nat × Nat)}:(Zpa P).length=P.length:=by simp [Zpa]
theorem Zpb {P:List (Nat × Nat)}:(Zyw P).length≤P.length:=by rw [Zyw,List.length_map];exact List.length_filter_le _ _
theorem ZlV {P:List (Nat × Nat)} (h:P.length≤20000):CtOk (ZkU P) 15:=ZBL (by omega) (by rw [List.length_append,List.length_append,Zik];split <;> simp <;> omega) (by omega) (by omega) (by omega)
theorem ZnW {P:List (Nat × Nat)} (h:P.length≤20000):CtOk (Zu3 P) 15:=ZBL (by omega) (Nat.le_trans Zpb (by omega)) (by omega) (by omega) (by omega)
theorem ZBN {P:List (Nat × Nat)} {k:Nat} (h:k<P.length):Zpa (P.take (k+1))=Zpa (P.take k)++[(Zig (P.getD k (0,0))).1]:=by rw [ZiP (d:=(0,0)) h,Zpa,List.map_append];rfl
theorem ZBO {P:List (Nat × Nat)} {k:Nat} (h:k<P.length):Zyw (P.take (k+1))=Zyw (P.take k)++if 0<(P.getD k (0,0)).2 then [(Znd (P.getD k (0,0))).1] else []:=by
 rw [ZiP (d:=(0,0)) h,Zyw,List.filter_append,List.map_append]
 congr 1
 by_cases c:0<(P.getD k (0,0)).2
 ·rw [if_pos c,List.filter_cons_of_pos (by simpa using c)];rfl
 ·rw [if_neg c,List.filter_cons_of_neg (by simpa using c)];rfl
set_option maxHeartbeats 2000000 in
set_option maxRecDepth 100000 in
theorem Zu4 [Tabs Tryz.prog] (nl:Bool) (P:List (Nat × Nat)) (hP:P.length≤20000) (hok:∀ p∈P,ZkQ p):Con Tryz.prog ZfO [.sl nl (some 2) (P.map pcA)] (Zqo (ZcU (ZkU P) 15) (ZcU (Zu3 P) 15)):=by
 refine Con.of' mix Tryz.func52 rfl Tryz.ntmps52 ZkC ZkD (by simp) (by simp only [AV.free,AV.free.freeL,Zec,Bool.and_self]) Zo0 ?_
 unfold Zf4
 have bl:=ZmG false (ZkU P) 15 (ZlV hP)
 have bd:=ZmG false (Zu3 P) 15 (ZnW hP)
 unfold cdA at bl bd
 obtain ⟨F,hF⟩:∃ F,F=ZcU (ZkU P) 15:=⟨_,rfl⟩
 obtain ⟨D,hD⟩:∃ D,D=ZcU (Zu3 P) 15:=⟨_,rfl⟩
 rw [←hF] at bl ⊢
 rw [←hD] at bd ⊢
 have hz:=Zo9 (n:=286)
 have hz2:=Zo9 (n:=30)
 obtain ⟨A,hA⟩:∃ A,A=P.map pcA:=⟨_,rfl⟩
 have hAl:A.length=P.length:=by rw [hA,List.length_map]
 have hrA:∀ ρ,ren.renL ρ A=A:=fun ρ=>by rw [hA];exact Zbb ρ _ Zec
 have hgA:∀ k,k<P.length→A.getD k .junk = .agg [.sc (.int .u16 ((P.getD k (0,0)).1:Int)),.sc (.int .u16 ((P.getD k (0,0)).2:Int))]:=fun k hk=>by rw [hA,ZBE hk];rfl
 rw [←hA]
 iterate 3 (first | refine xS ?_ | exact xT)
 refine SWp.reg2 ?_ ?_
 repeat (first | refine xR (ja4 @hz @hz2 @hAl @List.length_map.{0,0}) ?_ | exact xU (ja4 @hz @hz2 @hAl @List.length_map.{0,0}))
 refine SWp.renew 7 1 (o:=.row false ((ctN 286 []).map nA)) (by (first | exact vT | refine vS ?_)) ?_
 refine SWp.renew 8 2 (o:=.row false ((ctN 30 []).map nA)) (by (first | exact vU (ja4 @Zbn @Zbm @ZoF iR) | refine vR (ja4 @Zbn @Zbm @ZoF iR) ?_)) ?_
 refine SWp.le (Zau (N:=52) (gc:=5) (l:=[(0,.sl nl (some 2) A),(2,.op 2 0 0),(3,.own 7 3 none 0 286),(4,.own 8 4 none 0 30),(9,.sl nl (some 2) A),(10,int P.length),(11,int 0)]) (h:=[(2,0,.row false [.sc (.slice none 0 0),.sc (.slice none 0 0),.sc (.slice none 0 0),.sc (.slice none 0 0)]),(7,3,.row false ((ctN 286 []).map nA)),(8,4,.row false ((ctN 30 []).map nA))]) rfl ?_ ?_ ?_) ?_
 iterate 3 (case _=>(first | exact vU (ja4 @Zbm iR @hrA @Zbn) | refine vR (ja4 @Zbm iR @hrA @Zbn) ?_))
 rotate_left
 repeat (first | refine xR (ja4 @hz @hz2 @hAl @List.length_map.{0,0}) ?_ | exact xU (ja4 @hz @hz2 @hAl @List.length_map.{0,0}))
 refine SWp.renew 7 2 (o:=.row false ((ctN 286 []).map nA)) (by (first | exact vT | refine vS ?_)) ?_
 refine SWp.renew 8 1 (o:=.row false ((ctN 30 []).map nA)) (by (first | exact vU (ja4 @Zbn @Zbm @ZoF iR) | refine vR (ja4 @Zbn @Zbm @ZoF iR) ?_)) ?_
 refine SWp.le (Zau (N:=52) (gc:=5) (l:=[(0,.sl nl (some 2) A),(2,.op 2 0 0),(3,.own 7 3 none 0 286),(4,.own 8 4 none 0 30),(9,.sl nl (some 2) A),(10,int P.length),(11,int 0)]) (h:=[(2,0,.row false [.sc (.slice none 0 0),.sc (.slice none 0 0),.sc (.slice none 0 0),.sc (.slice none 0 0)]),(7,3,.row false ((ctN 286 []).map nA)),(8,4,.row false ((ctN 30 []).map nA))]) rfl ?_ ?_ ?_) ?_
 iterate 3 (case _=>(first | exact vU (ja4 @Zbm iR @hrA @Zbn) | refine vR (ja4 @Zbm iR @hrA @Zbn) ?_))
 all_goals
  refine SWp.loop (α:=Nat × List Nat × List Nat × Nat) (fun x=>mk 52 x.2.2.2 [(0,.sl nl (some 2) A),(2,.op 2 0 0),(3,.own 7 3 none 0 286),(4,.own 8 4 none 0 30),(9,.sl nl (some 2) A),(10,int P.length),(11,int x.1)] [(2,0,.row false [.sc (.slice none 0 0),.sc (.slice none 0 0),.sc (.slice none 0 0),.sc (.slice none 0 0)]),(7,3,.row false (x.2.1.map nA)),(8,4,.row false (x.2.2.1.map nA))])
   (fun x=>x.1≤P.length∧x.2.1=ctN 286 (Zpa (P.take x.1))∧x.2.2.1=ctN 30 (Zyw (P.take x.1))∧x.2.2.2=5+x.1) (fun x=>P.length-x.1) (0,ctN 286 [],ctN 30 [],5) ⟨Nat.zero_le _,by simp [Zpa],by simp [Zyw],by simp⟩ (Zau rfl ?_ ?_ ?_) ?_
  ·exact Nat.le_refl _
  iterate 2 (case _=>(first | exact vT | refine vS ?_))
  rintro ⟨k,cl,cd,gc⟩ ⟨hk,hcl,hcd,hgc⟩ -
  simp only at hk hcl hcd hgc
  have hll:cl.length=286:=by rw [hcl,Zbl]
  have hdl:cd.length=30:=by rw [hcd,Zbl]
  by_cases ck:k<P.length
  ·have dk:decide ((k:Int)<(P.length:Int))=true:=decide_eq_true (by omega)
   have hg:=hgA k ck
   have hls:=ZBN ck
   have hds:=ZBO ck
   obtain ⟨p,hp⟩:∃ p,p=P.getD k (0,0):=⟨_,rfl⟩
   rw [←hp] at hg hls hds
   have hpP:p∈P:=by
    have:P.getD k (0,0)=P[k]:=by simp [List.getD,ck]
    rw [hp,this];exact List.getElem_mem _
   have ho:=hok p hpP
   have lc:=Zta p ho
   have ir:=ZuY p
   rw [pcA] at lc ir
   have hu:=(Zo6 (l:=List.replicate 286 0) (by simp) ho).num
   rw [List.length_replicate] at hu
   have hsn:=ZlU (S:=Zpa (P.take k)) hu
   rw [←hls,←hcl] at hsn
   have hcv:(Zpa (P.take k)).count (Zig p).1≤20000:=Nat.le_trans List.count_le_length (by rw [Zik,List.length_take];omega)
   have hge:cl.getD (Zig p).1 0=(Zpa (P.take k)).count (Zig p).1:=by rw [hcl,ZkT hu]
   obtain ⟨⟨u,u2,u3⟩,hue⟩:∃ s,s=Zig p:=⟨_,rfl⟩
   rw [←hue] at hu hsn hcv hge lc
   simp only [syA] at hu hsn hcv hge lc
   obtain ⟨v,hv⟩:∃ v,v=(Zpa (P.take k)).count u:=⟨_,rfl⟩
   rw [←hv] at hsn hcv hge
   have hgv:(cl.map nA).getD u .junk = .sc (.int .i64 (v:Int)):=by rw [Zcm (by omega),hge]
   obtain ⟨v1,hv1⟩:∃ v1,v1=v+1:=⟨_,rfl⟩
   rw [←hv1] at hsn
   have hev:(v:Int)+1=(v1:Int):=by omega
   have hsp:=Zcq (l:=cl) (k:=u) (x:=v1) (by omega)
   rw [hsn,←Zf9,←Zg0] at hsp
   obtain ⟨cl2,hcl2⟩:∃ c,c=ctN 286 (Zpa (P.take (k+1))):=⟨_,rfl⟩
   rw [←hcl2] at hsp
   by_cases c0:0<p.2
   ·have e0:decide (0<p.2)=true:=decide_eq_true c0
    rw [e0] at ir
    rw [if_pos c0] at hds
    have dc:=Zqr p c0 (by have:=ho;simp only [ZkQ] at this;omega)
    rw [pcA] at dc
    have hx:=(Zte (d:=List.replicate 30 0) (by simp) ho c0).num
    rw [List.length_replicate] at hx
    have hdn:=ZlU (S:=Zyw (P.take k)) hx
    rw [←hds,←hcd] at hdn
    have hdv:(Zyw (P.take k)).count (Znd p).1≤20000:=Nat.le_trans List.count_le_length (Nat.le_trans Zpb (by rw [List.length_take];omega))
    have hde:cd.getD (Znd p).1 0=(Zyw (P.take k)).count (Znd p).1:=by rw [hcd,ZkT hx]
    obtain ⟨⟨x,x2,x3⟩,hxe⟩:∃ s,s=Znd p:=⟨_,rfl⟩
    rw [←hxe] at hx hdn hdv hde dc
    simp only [syA] at hx hdn hdv hde dc
    obtain ⟨w,hw⟩:∃ v,v=(Zyw (P.take k)).count x:=⟨_,rfl⟩
    rw [←hw] at hdn hdv hde
    have hgw:(cd.map nA).getD x .junk = .sc (.int .i64 (w:Int)):=by rw [Zcm (by omega),hde]
    obtain ⟨w1,hw1⟩:∃ v1,v1=w+1:=⟨_,rfl⟩
    rw [←hw1] at hdn
    have ew:(w:Int)+1=(w1:Int):=by omega
    have hsq:=Zcq (l:=cd) (k:=x) (x:=w1) (by omega)
    rw [hdn,←Zf9,←Zg0] at hsq
    obtain ⟨cd2,hcd2⟩:∃ c,c=ctN 30 (Zyw (P.take (k+1))):=⟨_,rfl⟩
    rw [←hcd2] at hsq
    repeat (first | refine xR (ja3 @dk @hAl @hg) ?_ | exact xU (ja3 @dk @hAl @hg))
    refine Zay _ (.inl ⟨rfl,lc⟩) ?_
    repeat (first | refine xR (ja5 @hgv @hev @hsp @hll @List.length_map.{0,0}) ?_ | exact xU (ja5 @hgv @hev @hsp @hll @List.length_map.{0,0}))
    refine Zay _ (.inl ⟨rfl,ir⟩) ?_
    repeat (first | refine xS ?_ | exact xT)
    refine Zay _ (.inl ⟨rfl,dc⟩) ?_
    repeat (first | refine xR (ja5 @hgw @ew @hsq @hdl @List.length_map.{0,0}) ?_ | exact xU (ja5 @hgw @ew @hsq @hdl @List.length_map.{0,0}))
    refine At.of (k+1,cl2,cd2,gc+1) ⟨by simp only;omega,hcl2,hcd2,by simp only;omega⟩ (by simp only;omega) rfl rfl (Nat.le_refl _) ?_ ?_
    iterate 2 (case _=>(first | exact vU (ja2 @hsp @hsq) | refine vR (ja2 @hsp @hsq) ?_))
   ·have e0:decide (0<p.2)=false:=decide_eq_false c0
    rw [e0] at ir
    rw [if_neg c0,List.append_nil] at hds
    rw [←hds] at hcd
    repeat (first | refine xR (ja3 @dk @hAl @hg) ?_ | exact xU (ja3 @dk @hAl @hg))
    refine Zay _ (.inl ⟨rfl,lc⟩) ?_
    repeat (first | refine xR (ja5 @hgv @hev @hsp @hll @List.length_map.{0,0}) ?_ | exact xU (ja5 @hgv @hev @hsp @hll @List.length_map.{0,0}))
    refine Zay _ (.inl ⟨rfl,ir⟩) ?_
    repeat (first | refine xS ?_ | exact xT)
    refine At.of (k+1,cl2,cd,gc+1) ⟨by simp only;omega,hcl2,hcd,by simp only;omega⟩ (by simp only;omega) rfl rfl (Nat.le_refl _) ?_ ?_
    iterate 2 (case _=>(first | exact vU @hsp | refine vR @hsp ?_))
  ·have dk:decide ((k:Int)<(P.length:Int))=false:=decide_eq_false (by omega)
   rw [List.take_of_length_le (by omega)] at hcl hcd
   have hsn:=ZlU (n:=286) (u:=256) (S:=Zpa P) (by omega)
   have hge:cl.getD 256 0=(Zpa P).count 256:=by rw [hcl,ZkT (by omega)]
   have hcv:(Zpa P).count 256≤20000:=Nat.le_trans List.count_le_length (by rw [Zik];omega)
   rw [←hcl] at hsn
   obtain ⟨v,hv⟩:∃ v,v=(Zpa P).count 256:=⟨_,rfl⟩
   rw [←hv] at hsn hcv hge
   have hgv:(cl.map nA).getD 256 .junk = .sc (.int .i64 (v:Int)):=by rw [Zcm (by omega),hge]
   obtain ⟨v1,hv1⟩:∃ v1,v1=v+1:=⟨_,rfl⟩
   rw [←hv1] at hsn
   have hev:(v:Int)+1=(v1:Int):=by omega
   have hsp:=Zcq (l:=cl) (k:=256) (x:=v1) (by omega)
   rw [hsn,←Zf9,←Zg0] at hsp
   obtain ⟨c2,hc2⟩:∃ c,c=ctN 286 (Zpa P++[256]):=⟨_,rfl⟩
   rw [←hc2] at hsp
   have hc2l:c2.length=286:=by rw [hc2,Zbl]
   have hdC:cd=Zu3 P:=hcd
   rw [←hdC] at bd
   by_cases cz:P.length=0
   ·have dz:decide ((P.length:Int)=0)=true:=decide_eq_true (by omega)
    have hsn:=ZlU (n:=286) (u:=0) (S:=Zpa P++[256]) (by omega)
    have hge:c2.getD 0 0=(Zpa P++[256]).count 0:=by rw [hc2,ZkT (by omega)]
    have hcv:(Zpa P++[256]).count 0≤20001:=Nat.le_trans List.count_le_length (by rw [List.length_append,Zik];simp;omega)
    rw [←hc2] at hsn
    obtain ⟨w,hw⟩:∃ v,v=(Zpa P++[256]).count 0:=⟨_,rfl⟩
    rw [←hw] at hsn hcv hge
    have hgw:(c2.map nA).getD 0 .junk = .sc (.int .i64 (w:Int)):=by rw [Zcm (by omega),hge]
    obtain ⟨w1,hw1⟩:∃ v1,v1=w+1:=⟨_,rfl⟩
    rw [←hw1] at hsn
    have ew:(w:Int)+1=(w1:Int):=by omega
    have hsq:=Zcq (l:=c2) (k:=0) (x:=w1) (by omega)
    rw [hsn,←Zf9,←Zg0] at hsq
    obtain ⟨c3,hc3⟩:∃ c,c=ctN 286 (Zpa P++[256]++[0]):=⟨_,rfl⟩
    rw [←hc3] at hsq
    have hc3l:c3.length=286:=by rw [hc3,Zbl]
    have hlC:c3=ZkU P:=by rw [hc3,ZkU,if_pos cz]
    rw [←hlC] at bl
    rw [List.take_zero,List.nil_append,Nat.zero_add] at hsq
    repeat (first | refine xR (ja8 @dk @hAl @hgv @hev @hsp @hll @dz (ja5 @hgw @ew @hsq @hc2l @List.length_map.{0,0})) ?_ | exact xU (ja8 @dk @hAl @hgv @hev @hsp @hll @dz (ja5 @hgw @ew @hsq @hc2l @List.length_map.{0,0})))
    refine Zfo 7 3 (nl:=false) (cells:=c3.map nA) [.sl false none (c3.map nA),int ((15:Nat):Int)] _ (by (first | exact vT | refine vS ?_)) (by (first | exact vU @Zab | refine vR @Zab ?_)) ?_ (by (first | exact vU @Zab | refine vR @Zab ?_)) bl ?_
    ·(first | exact vU (ja3 fR iR @hc3l) | refine vR (ja3 fR iR @hc3l) ?_)
    repeat (first | refine xR (ja2 fR iR) ?_ | exact xU (ja2 fR iR))
    refine Zfo 8 4 (nl:=false) (cells:=cd.map nA) [.sl false none (cd.map nA),int ((15:Nat):Int)] _ (by (first | exact vT | refine vS ?_)) (by (first | exact vU @Zab | refine vR @Zab ?_)) ?_ (by (first | exact vU @Zab | refine vR @Zab ?_)) bd ?_
    ·(first | exact vU (ja3 fR iR @hdl) | refine vR (ja3 fR iR @hdl) ?_)
    repeat (first | refine xR (ja3 fR iR @Zqo.eq_1) ?_ | exact xU (ja3 fR iR @Zqo.eq_1))
   ·have dz:decide ((P.length:Int)=0)=false:=decide_eq_false (by omega)
    have hlC:c2=ZkU P:=by rw [hc2,ZkU,if_neg cz,List.append_nil]
    rw [←hlC] at bl
    repeat (first | refine xR (ja8 @dk @hAl @hgv @hev @hsp @hll @dz @List.length_map.{0,0}) ?_ | exact xU (ja8 @dk @hAl @hgv @hev @hsp @hll @dz @List.length_map.{0,0}))
    refine Zfo 7 3 (nl:=false) (cells:=c2.map nA) [.sl false none (c2.map nA),int ((15:Nat):Int)] _ (by (first | exact vT | refine vS ?_)) (by (first | exact vU @Zab | refine vR @Zab ?_)) ?_ (by (first | exact vU @Zab | refine vR @Zab ?_)) bl ?_
    ·(first | exact vU (ja3 fR iR @hc2l) | refine vR (ja3 fR iR @hc2l) ?_)
    repeat (first | refine xR (ja2 fR iR) ?_ | exact xU (ja2 fR iR))
    refine Zfo 8 4 (nl:=false) (cells:=cd.map nA) [.sl false none (cd.map nA),int ((15:Nat):Int)] _ (by (first | exact vT | refine vS ?_)) (by (first | exact vU @Zab | refine vR @Zab ?_)) ?_ (by (first | exact vU @Zab | refine vR @Zab ?_)) bd ?_
    ·(first | exact vU (ja3 fR iR @hdl) | refine vR (ja3 fR iR @hdl) ?_)
    repeat (first | refine xR (ja3 fR iR @Zqo.eq_1) ?_ | exact xU (ja3 fR iR @Zqo.eq_1))
def tlO:List Nat:=[16,17,18,0,8,7,9,6,10,5,11,4,12,3,13,2,14,1,15]
theorem ZEG:∀ k,k<19→tlO.getD k 0<19:=by decide
def tdL (l d:List Nat):List Nat:=Zc2 l 257++Zc2 d 1
def tdF (l d:List Nat):List Nat:=ZcU (ctT (tls (tdL l d))) 7
def tdO (F:List Nat):List Nat:=tlO.map fun i=>F.getD i 0
def ZlW (l d:List Nat):List Nat :=
 Zbq ((Zc2 l 257).length-257) 5++(Zbq ((Zc2 d 1).length-1) 5++(Zbq ((Zc2 (tdO (tdF l d)) 4).length-4) 4 ++
  ((Zc2 (tdO (tdF l d)) 4).flatMap (fun x=>Zbq x 3)++(tls (tdL l d)).flatMap (ZjJ (tdF l d)))))
theorem ZcV {l:List Nat} {q:Nat} (h:q≤l.length):q≤(Zc2 l q).length∧(Zc2 l q).length≤l.length:=by
 rw [Zc2,List.length_take]
 have h1:=ZBI (l:=l) (q:=q) h
 have h2:=Zo8 (l:=l) (q:=q) (n:=l.length)
 omega
theorem ZeJ {l:List Nat} {q b:Nat} (h:∀ x∈l,x≤b):∀ x∈Zc2 l q,x≤b:=fun x hx=>h x (List.mem_of_mem_take hx)
theorem ZD4 [Tabs Tryz.prog] (X:List Nat) (hl:X.length≤2000000) (hX:∀ x∈X,x<2) (v:Nat) (hv:v<16777216) (n:Nat) (hn:n≤24) (Y:List Nat) (hY:Y=X++Zbq v n) :
  HCon Tryz.prog ZaC [.op 1000 0 0,.sc (.int .i64 (v:Int)),.sc (.int .i64 (n:Int))] [.row false (wrR 0 ((X.length+7) / 8) X.length),.row (nl0 ((X.length+7) / 8)) ((Zat X).map u8)] (.tup [])
   [(1000,0,.row false (wrR 60 ((Y.length+7) / 8) Y.length)),(1001,60,.row (nl0 ((Y.length+7) / 8)) ((Zat Y).map u8))] 61:=by
 have h:=ZfD X hl hX v hv n hn X.length ((X.length+7) / 8) rfl rfl
 have e:X.length+n=Y.length:=by rw [hY,List.length_append,Zap]
 rw [←hY,e] at h
 exact h
theorem Zwh {X Y:List Nat} {v n:Nat} (hX:∀ x∈X,x<2) (hY:Y=X++Zbq v n):∀ x∈Y,x<2:=fun x hx=>by rw [hY] at hx;exact (List.mem_append.1 hx).elim (hX x) (Ze3 x)
theorem Zrw {X Y:List Nat} {v n:Nat} (hY:Y=X++Zbq v n):Y.length=X.length+n:=by rw [hY,List.length_append,Zap]
set_option maxHeartbeats 2000000 in
set_option maxRecDepth 100000 in
theorem Zrx [Tabs Tryz.prog] (ht:Tabs.tab Tryz.prog 0=some (tlO.map nA)) (L:List Nat) (hl:L.length≤100000) (hL:∀ x∈L,x<2) (l d:List Nat) (ol:LnOk l) (od:LnOk d) (l1:l.length=286) (d1:d.length=30) (i m:Nat) (hi:i=L.length) (hm:m=(L.length+7) / 8) (j:Nat) (hj:j=(L++ZlW l d).length) :
  HCon Tryz.prog ZeO [.agg [.op 1000 0 0],Zqo l d] [.row false (wrR 0 m i),.row (nl0 m) ((Zat L).map u8)] (.tup [])
   [(1000,0,.row false (wrR (KE+1) ((j+7) / 8) j)),(1001,KE+1,.row (nl0 ((j+7) / 8)) ((Zat (L++ZlW l d)).map u8))] (KE+2):=by
 refine HCon.of' mix Tryz.func53 rfl Tryz.ntmps53 Zi7 Zi8 (by simp) ?_ ZlR ?_
 ·simp only [AV.gl.glL,AV.gl,Zqo,and_true,true_and]
  exact ⟨by omega,Zae _ _ Zab,Zae _ _ Zab,Zae _ _ Zab,Zae _ _ Zab⟩
 unfold ZeU
 have hG:∀ st,ev Tryz.prog st (.global 0) = .fp (.agg (tlO.map nA)) 0:=fun st=>Zou ht
 obtain ⟨O,hO⟩:∃ O,O=tlO:=⟨_,rfl⟩
 have hOl:O.length=19:=by rw [hO];rfl
 have hOx:∀ k,k<19→O.getD k 0<19:=by rw [hO];exact ZEG
 rw [←hO] at hG
 have k1:=ZcV (l:=l) (q:=257) (by omega)
 have k2:=ZcV (l:=d) (q:=1) (by omega)
 have cl:=ZGB false l (by omega) 257 (by omega)
 have cd:=ZGB false d (by omega) 1 (by omega)
 have h15:∀ x∈tdL l d,x≤15:=fun x hx=>(List.mem_append.1 hx).elim (ZeJ ol.small x) (ZeJ od.small x)
 have kl:(tdL l d).length≤320:=by rw [tdL,List.length_append];omega
 have cc:=Zkh false false ((Zc2 l 257).map nA) ((Zc2 d 1).map nA) Zab Zab (by rw [List.length_map];omega) (by rw [List.length_map];omega) (by rw [List.length_map,List.length_map];omega)
 rw [←List.map_append,←tdL] at cc
 have ct:=ZBK false (tdL l d) (by omega) h15
 obtain ⟨o1,o2⟩:=Zwf h15
 have cb:=Ztg (nl0 (tls (tdL l d)).length) (tls (tdL l d)) (by omega) o1
 rw [←tdF] at cb
 have oF:LnOk (tdF l d):=Zjn (Zwg (by omega))
 have lF:(tdF l d).length=19:=by rw [tdF,Zcn,ctT,Zbl]
 have hB:ZlW l d=Zbq ((Zc2 l 257).length-257) 5++(Zbq ((Zc2 d 1).length-1) 5++(Zbq ((Zc2 (tdO (tdF l d)) 4).length-4) 4++((Zc2 (tdO (tdF l d)) 4).flatMap (fun x=>Zbq x 3)++(tls (tdL l d)).flatMap (ZjJ (tdF l d))))):=rfl
 have hOF:tdO (tdF l d)=O.map fun i=>(tdF l d).getD i 0:=by rw [hO];rfl
 obtain ⟨B,hBe⟩:∃ B,B=ZlW l d:=⟨_,rfl⟩
 rw [←hBe] at hB hj ⊢
 obtain ⟨F,hF⟩:∃ F,F=tdF l d:=⟨_,rfl⟩
 rw [←hF] at cb oF lF hB hOF
 obtain ⟨T,hT⟩:∃ T,T=tls (tdL l d):=⟨_,rfl⟩
 rw [←hT] at ct o1 o2 cb hB
 obtain ⟨S,hS⟩:∃ S,S=tdL l d:=⟨_,rfl⟩
 rw [←hS] at ct cc h15 kl o2
 obtain ⟨L2,hL2⟩:∃ X,X=Zc2 l 257:=⟨_,rfl⟩
 obtain ⟨D2,hD2⟩:∃ X,X=Zc2 d 1:=⟨_,rfl⟩
 rw [←hL2] at k1 cl cc hB
 rw [←hD2] at k2 cd cc hB
 obtain ⟨V,hV⟩:∃ V,V=tdO F:=⟨_,rfl⟩
 rw [←hV] at hB hOF
 have hVl:V.length=19:=by rw [hOF,List.length_map,hOl]
 have cv:=ZGB false V (by omega) 4 (by omega)
 have k3:=ZcV (l:=V) (q:=4) (by omega)
 have hV15:∀ x∈V,x≤15:=fun x hx=>by
  rw [hOF] at hx
  obtain ⟨y,hy,rfl⟩:=List.mem_map.1 hx
  obtain ⟨k,hk,rfl⟩:=List.getElem_of_mem hy
  have:=hOx k (by omega)
  have e:O.getD k 0=O[k]:=by simp [List.getD,hk]
  rw [←e]
  exact Zjo oF.small (by omega)
 have hQ15:=ZeJ (q:=4) hV15
 obtain ⟨Q,hQ⟩:∃ Q,Q=Zc2 V 4:=⟨_,rfl⟩
 rw [←hQ] at cv k3 hQ15 hB
 clear hS hT hF hV hL2 hD2 hQ
 obtain ⟨C,hC⟩:∃ C,C=ZbM l:=⟨_,rfl⟩
 obtain ⟨D,hD⟩:∃ D,D=ZbM d:=⟨_,rfl⟩
 obtain ⟨E,hE⟩:∃ E,E=ZbM F:=⟨_,rfl⟩
 unfold Zqo
 rw [←hC,←hD]
 rw [cdA,←hE] at cb
 obtain ⟨A,hA⟩:∃ A,A=T.map syA:=⟨_,rfl⟩
 have hAl:A.length=T.length:=by rw [hA,List.length_map]
 have fA:AV.free.freeL A=true:=by rw [hA];exact Zrv
 have hgA:∀ k,k<T.length→A.getD k .junk = .agg [.sc (.int .i64 ((T.getD k (0,0,0)).1:Int)),.sc (.int .i64 ((T.getD k (0,0,0)).2.1:Int)),.sc (.int .i64 ((T.getD k (0,0,0)).2.2:Int))]:=fun k hk=>by rw [hA,ZBM hk];rfl
 rw [←hA] at ct cb
 repeat (first | refine zS ?_ | exact zT)
 refine Zay _ (.inl ⟨by simp only [AV.free,AV.free.freeL,Zab,Bool.and_self],cl⟩) ?_
 repeat (first | refine zS ?_ | exact zT)
 refine Zay _ (.inl ⟨by simp only [AV.free,AV.free.freeL,Zab,Bool.and_self],cd⟩) ?_
 repeat (first | refine zS ?_ | exact zT)
 refine Zfo 25 3 (nl:=false) (cells:=[.sl false none (L2.map nA),.sl false none (D2.map nA)]) [.sl false none [.sl false none (L2.map nA),.sl false none (D2.map nA)]] _ (by (first | exact yT | refine yS ?_)) (by (first | exact yU (ja8 @Zab @AV.free.eq_1 @AV.free.eq_2 @AV.free.eq_3 @AV.free.eq_4 @AV.free.eq_5 @AV.free.eq_6 (ja7 @AV.free.eq_7 @AV.free.eq_8 @AV.free.eq_9 @AV.free.eq_10 @AV.free.freeL.eq_1 @AV.free.freeL.eq_2 @Bool.and_self)) | refine yR (ja8 @Zab @AV.free.eq_1 @AV.free.eq_2 @AV.free.eq_3 @AV.free.eq_4 @AV.free.eq_5 @AV.free.eq_6 (ja7 @AV.free.eq_7 @AV.free.eq_8 @AV.free.eq_9 @AV.free.eq_10 @AV.free.freeL.eq_1 @AV.free.freeL.eq_2 @Bool.and_self)) ?_)) ?_ (by (first | exact yU (ja8 @Zab @AV.free.eq_1 @AV.free.eq_2 @AV.free.eq_3 @AV.free.eq_4 @AV.free.eq_5 @AV.free.eq_6 (ja7 @AV.free.eq_7 @AV.free.eq_8 @AV.free.eq_9 @AV.free.eq_10 @AV.free.freeL.eq_1 @AV.free.freeL.eq_2 @Bool.and_self)) | refine yR (ja8 @Zab @AV.free.eq_1 @AV.free.eq_2 @AV.free.eq_3 @AV.free.eq_4 @AV.free.eq_5 @AV.free.eq_6 (ja7 @AV.free.eq_7 @AV.free.eq_8 @AV.free.eq_9 @AV.free.eq_10 @AV.free.freeL.eq_1 @AV.free.freeL.eq_2 @Bool.and_self)) ?_)) cc ?_
 ·(first | exact yU (ja2 fR iR) | refine yR (ja2 fR iR) ?_)
 repeat (first | refine zR (ja2 fR iR) ?_ | exact zU (ja2 fR iR))
 refine Zay _ (.inl ⟨by simp only [AV.free,AV.free.freeL,Zab,Bool.and_self],ct⟩) ?_
 repeat (first | refine zS ?_ | exact zT)
 refine Zay _ (.inl ⟨by simp only [AV.free,AV.free.freeL,fA,Bool.and_self],cb⟩) ?_
 iterate 3 (first | refine zS ?_ | exact zT)
 refine SWp.adopt 8 none (by (first | exact yT | refine yS ?_)) ?_
 have htk:List.take 19 (O.map nA)=O.map nA:=List.take_of_length_le (by rw [List.length_map,hOl];exact Nat.le_refl _)
 repeat (first | refine zR (ja2 @hG @htk) ?_ | exact zU (ja2 @hG @htk))
 refine SWp.loop (α:=Nat × Nat × Nat) (fun x=>mk 85 x.2.2 [(2,.op 2 1 0),(4,.sl false none (L2.map nA)),(5,.sl false none (D2.map nA)),(6,.sl (nl0 T.length) (some 3) A),(7,.op 7 4 0),(8,.own 8 x.2.1 none 0 x.1),(30,.agg (O.map nA)),(31,int x.1)] [(1000,0,.row false (wrR 0 m i)),(1001,0,.row (nl0 m) ((Zat L).map u8)),(2,1,.row false [.op 1000 0 0]),(7,4,.row false [.sl false none (F.map nA),.sl false none (E.map nA)]),(8,x.2.1,.row (nl0 x.1) ((V.take x.1).map nA))])
  (fun x=>x.1≤19∧x.2.2≤6+x.1) (fun x=>19-x.1) (0,5,6) ⟨Nat.zero_le _,by simp⟩ (Zau rfl ?_ ?_ ?_) ?_
 ·exact Nat.le_refl _
 ·(first | exact yT | refine yS ?_)
 ·(first | exact yU (ja2 @Zbw @ZEF) | refine yR (ja2 @Zbw @ZEF) ?_)
  try rfl
 rintro ⟨k,g,gc⟩ ⟨hk,hgc⟩ -
 simp only at hk hgc
 have hVtl:(V.take k).length=k:=by rw [List.length_take,hVl];omega
 by_cases ck:k<19
 ·have dk:decide ((k:Int)<19)=true:=decide_eq_true (by omega)
  have hw:=hOx k ck
  obtain ⟨w,hwe⟩:∃ w,w=O.getD k 0:=⟨_,rfl⟩
  rw [←hwe] at hw
  have hgo:(O.map nA).getD k .junk = .sc (.int .i64 (w:Int)):=by rw [hwe];exact Zcm (by omega)
  obtain ⟨v,hv⟩:∃ v,v=F.getD w 0:=⟨_,rfl⟩
  have hgf:(F.map nA).getD w .junk = .sc (.int .i64 (v:Int)):=by rw [hv];exact Zcm (by omega)
  have hVv:V.getD k 0=v:=by rw [hOF];simp only [List.getD,List.getElem?_map,List.getElem?_eq_getElem (show k<O.length by omega),Option.map_some,Option.getD_some];rw [hv,hwe];simp [List.getD,hOl,ck]
  have hsn:(V.take k).map nA++[.sc (.int .i64 (v:Int))]=(V.take (k+1)).map nA:=by rw [ZiP (d:=0) (by omega),List.map_append,hVv];rfl
  have hnl:nl0 (k+1)=false:=Zcg (by omega)
  repeat (first | refine zR (ja6 @dk @hgo @hgf @hOl @lF @List.length_map.{0,0}) ?_ | exact zU (ja6 @dk @hgo @hgf @hOl @lF @List.length_map.{0,0}))
  refine At.of (k+1,gc,gc+1) ⟨by simp only;omega,by simp only;omega⟩ (by simp only;omega) rfl rfl (Nat.le_refl _) ?_ ?_
  iterate 2 (case _=>(first | exact yU (ja2 @hsn @hnl) | refine yR (ja2 @hsn @hnl) ?_))
 have dk:decide ((k:Int)<19)=false:=decide_eq_false (by omega)
 obtain rfl:k=19:=by omega
 rw [List.take_of_length_le (by omega)]
 have hn19:nl0 19=false:=rfl
 obtain ⟨u,hu⟩:∃ u,u=L2.length-257:=⟨_,rfl⟩
 obtain ⟨v,hv⟩:∃ u,u=D2.length-1:=⟨_,rfl⟩
 obtain ⟨w,hw⟩:∃ u,u=Q.length-4:=⟨_,rfl⟩
 have eu:(L2.length:Int)-257=(u:Int):=by omega
 have hev:(D2.length:Int)-1=(v:Int):=by omega
 have ew:(Q.length:Int)-4=(w:Int):=by omega
 obtain ⟨X1,hX1⟩:∃ X,X=L++Zbq u 5:=⟨_,rfl⟩
 obtain ⟨X2,hX2⟩:∃ X,X=X1++Zbq v 5:=⟨_,rfl⟩
 obtain ⟨X3,hX3⟩:∃ X,X=X2++Zbq w 4:=⟨_,rfl⟩
 have a1:=Zwh hL hX1
 have a2:=Zwh a1 hX2
 have a3:=Zwh a2 hX3
 have n1:=Zrw hX1
 have n2:=Zrw hX2
 have n3:=Zrw hX3
 have p1:=ZD4 L (by omega) hL u (by omega) 5 (by omega) X1 hX1
 have p2:=ZD4 X1 (by omega) a1 v (by omega) 5 (by omega) X2 hX2
 have p3:=ZD4 X2 (by omega) a2 w (by omega) 4 (by omega) X3 hX3
 have hB3:L++B=X3++(Q.flatMap (fun x=>Zbq x 3)++T.flatMap (ZjJ F)):=by rw [hB,hX3,hX2,hX1,hu,hv,hw];simp only [List.append_assoc]
 rw [hi,hm]
 rw [hB3] at hj ⊢
 clear hB hB3
 repeat (first | refine zR (ja2 @dk @hn19) ?_ | exact zU (ja2 @dk @hn19))
 refine Zfo 8 g (nl:=false) (cells:=V.map nA) [.sl false none (V.map nA),.sc (.int .i64 ((4:Nat):Int))] _ (by (first | exact yU @hn19 | refine yR @hn19 ?_)) (by (first | exact yU @Zab | refine yR @Zab ?_)) ?_ (by (first | exact yU @Zab | refine yR @Zab ?_)) cv ?_
 ·(first | exact yU (ja4 fR iR @hVl @hn19) | refine yR (ja4 fR iR @hVl @hn19) ?_)
 repeat (first | refine zR (ja4 fR iR @eu @List.length_map.{0,0}) ?_ | exact zU (ja4 fR iR @eu @List.length_map.{0,0}))
 refine Zag [(1000,0),(1001,0)] 2000 p1 (by simp) (by simp) ?_ ?_ ?_
 iterate 2 (case _=>(first | exact yU (ja2 @wrR.eq_1 iR) | refine yR (ja2 @wrR.eq_1 iR) ?_))
 repeat (first | refine zR (ja4 @wrR.eq_1 iR @hev @List.length_map.{0,0}) ?_ | exact zU (ja4 @wrR.eq_1 iR @hev @List.length_map.{0,0}))
 refine Zag [(1000,0),(1001,gc+60)] 3000 p2 (by simp) (by simp) ?_ ?_ ?_
 iterate 2 (case _=>(first | exact yU (ja2 @wrR.eq_1 iR) | refine yR (ja2 @wrR.eq_1 iR) ?_))
 repeat (first | refine zR (ja4 @wrR.eq_1 iR @ew @List.length_map.{0,0}) ?_ | exact zU (ja4 @wrR.eq_1 iR @ew @List.length_map.{0,0}))
 refine Zag [(1000,0),(1001,gc+61+60)] 4000 p3 (by simp) (by simp) ?_ ?_ ?_
 iterate 2 (case _=>(first | exact yU (ja2 @wrR.eq_1 iR) | refine yR (ja2 @wrR.eq_1 iR) ?_))
 repeat (first | refine zR (ja3 @wrR.eq_1 iR @List.length_map.{0,0}) ?_ | exact zU (ja3 @wrR.eq_1 iR @List.length_map.{0,0}))
 obtain ⟨g0,hg0⟩:∃ x,x=gc+61+61+60:=⟨_,rfl⟩
 obtain ⟨gc0,hgc0⟩:∃ x,x=gc+61+61+61:=⟨_,rfl⟩
 refine SWp.loop (α:=Nat × List Nat × Nat × Nat) (fun x=>mk 85 x.2.2.2 [(2,.op 2 1 0),(6,.sl (nl0 T.length) (some 3) A),(7,.op 7 4 0),(63,.sl false none (Q.map nA)),(64,int Q.length),(65,int x.1)] [(1000,0,.row false (wrR x.2.2.1 ((x.2.1.length+7) / 8) x.2.1.length)),(1001,x.2.2.1,.row (nl0 ((x.2.1.length+7) / 8)) ((Zat x.2.1).map u8)),(2,1,.row false [.op 1000 0 0]),(7,4,.row false [.sl false none (F.map nA),.sl false none (E.map nA)])])
  (fun x=>x.1≤Q.length∧x.2.1=X3++(Q.take x.1).flatMap (fun x=>Zbq x 3)∧(∀ y∈x.2.1,y<2)∧x.2.1.length≤100014+3*x.1∧x.2.2.2≤300+61*x.1) (fun x=>Q.length-x.1) (0,X3,gc+61+61+60,gc+61+61+61) ⟨Nat.zero_le _,by simp,a3,by simp only;omega,by simp only;omega⟩ (Zau rfl ?_ ?_ ?_) ?_
 ·exact Nat.le_refl _
 iterate 2 (case _=>(first | exact yU @wrR.eq_1 | refine yR @wrR.eq_1 ?_))
 rintro ⟨k,X,g2,gd⟩ ⟨hk2,hX,hXb,hXl,hgd⟩ -
 simp only at hk2 hX hXb hXl hgd
 by_cases ck2:k<Q.length
 ·have dk:decide ((k:Int)<(Q.length:Int))=true:=decide_eq_true (by omega)
  obtain ⟨x,hx⟩:∃ x,x=Q.getD k 0:=⟨_,rfl⟩
  have hgq:(Q.map nA).getD k .junk = .sc (.int .i64 (x:Int)):=by rw [hx];exact Zcm ck2
  have hx15:x≤15:=by rw [hx];exact Zjo hQ15 ck2
  obtain ⟨Y,hY⟩:∃ Y,Y=X++Zbq x 3:=⟨_,rfl⟩
  have py:=ZD4 X (by omega) hXb x (by omega) 3 (by omega) Y hY
  have hYl:=Zrw hY
  repeat (first | refine zR (ja4 @dk @hgq @wrR.eq_1 @List.length_map.{0,0}) ?_ | exact zU (ja4 @dk @hgq @wrR.eq_1 @List.length_map.{0,0}))
  refine Zag [(1000,0),(1001,g2)] 2000 py (by simp) (by simp) ?_ ?_ ?_
  iterate 2 (case _=>(first | exact yU (ja2 @wrR.eq_1 iR) | refine yR (ja2 @wrR.eq_1 iR) ?_))
  repeat (first | refine zR (ja2 @wrR.eq_1 iR) ?_ | exact zU (ja2 @wrR.eq_1 iR))
  refine At.of (k+1,Y,gd+60,gd+61) ⟨by simp only;omega,by simp only;rw [hY,hX,ZiP (d:=0) ck2,←hx,List.flatMap_append];simp [List.append_assoc],Zwh hXb hY,by simp only;omega,by simp only;omega⟩ (by simp only;omega) rfl rfl (Nat.le_refl _) ?_ ?_
  iterate 2 (case _=>(first | exact yU @wrR.eq_1 | refine yR @wrR.eq_1 ?_))
 have dk:decide ((k:Int)<(Q.length:Int))=false:=decide_eq_false (by omega)
 obtain rfl:k=Q.length:=by omega
 rw [List.take_of_length_le (Nat.le_refl _)] at hX
 have hB4:X3++(Q.flatMap (fun x=>Zbq x 3)++T.flatMap (ZjJ F))=X++T.flatMap (ZjJ F):=by rw [hX,List.append_assoc]
 rw [hB4] at hj ⊢
 clear hB4 hX
 repeat (first | refine zR (ja2 @dk @hAl) ?_ | exact zU (ja2 @dk @hAl))
 refine SWp.loop (α:=Nat × List Nat × Nat × Nat) (fun x=>mk 85 x.2.2.2 [(2,.op 2 1 0),(7,.op 7 4 0),(74,.sl (nl0 T.length) (some 3) A),(75,int T.length),(76,int x.1)] [(1000,0,.row false (wrR x.2.2.1 ((x.2.1.length+7) / 8) x.2.1.length)),(1001,x.2.2.1,.row (nl0 ((x.2.1.length+7) / 8)) ((Zat x.2.1).map u8)),(2,1,.row false [.op 1000 0 0]),(7,4,.row false [.sl false none (F.map nA),.sl false none (E.map nA)])])
  (fun x=>x.1≤T.length∧x.2.1=X++(T.take x.1).flatMap (ZjJ F)∧(∀ y∈x.2.1,y<2)∧x.2.1.length≤110000+39*x.1∧x.2.2.2≤20000+127*x.1) (fun x=>T.length-x.1) (0,X,g2,gd) ⟨Nat.zero_le _,by simp,hXb,by simp only;omega,by simp only;omega⟩ (Zau rfl ?_ ?_ ?_) ?_
 ·exact Nat.le_refl _
 iterate 2 (case _=>(first | exact yU @wrR.eq_1 | refine yR @wrR.eq_1 ?_))
 rintro ⟨k,Z,g3,ge⟩ ⟨hk3,hZ,hZb,hZl,hge⟩ -
 simp only at hk3 hZ hZb hZl hge
 by_cases ck3:k<T.length
 ·have dk:decide ((k:Int)<(T.length:Int))=true:=decide_eq_true (by omega)
  have hg:=hgA k ck3
  obtain ⟨s,hs⟩:∃ s,s=T.getD k (0,0,0):=⟨_,rfl⟩
  rw [←hs] at hg
  have hsT:s∈T:=by
   have:T.getD k (0,0,0)=T[k]:=by simp [List.getD,ck3]
   rw [hs,this];exact List.getElem_mem _
  have hso:=o1 s hsT
  have sy:SyOk F s:=⟨by rw [lF];exact hso.num,by have:=hso.more;omega,by have:=hso.bits;omega⟩
  obtain ⟨Y,hY⟩:∃ Y,Y=Z++ZjJ F s:=⟨_,rfl⟩
  have hYl:Y.length≤Z.length+39:=by rw [hY,List.length_append];have:=Zfz oF sy;omega
  have ps:=Zed Z (by omega) hZb false F oF s sy Z.length ((Z.length+7) / 8) rfl rfl Y.length (by rw [hY])
  rw [←hY,cdA,←hE,syA] at ps
  repeat (first | refine zR (ja4 @dk @hg @hAl @wrR.eq_1) ?_ | exact zU (ja4 @dk @hg @hAl @wrR.eq_1))
  refine Zag [(1000,0),(1001,g3)] 2000 ps (by simp) (by simp) ?_ ?_ ?_
  iterate 2 (case _=>(first | exact yU (ja2 @wrR.eq_1 iR) | refine yR (ja2 @wrR.eq_1 iR) ?_))
  repeat (first | refine zR (ja2 @wrR.eq_1 iR) ?_ | exact zU (ja2 @wrR.eq_1 iR))
  refine At.of (k+1,Y,ge+1+125,ge+1+126) ⟨by simp only;omega,by simp only;rw [hY,hZ,ZiP (d:=(0,0,0)) ck3,←hs,List.flatMap_append];simp [List.append_assoc],fun y hy=>by simp only at hy;rw [hY] at hy;exact (List.mem_append.1 hy).elim (hZb y) (ZkR y),by simp only;omega,by simp only;omega⟩ (by simp only;omega) rfl rfl (Nat.le_refl _) ?_ ?_
  iterate 2 (case _=>(first | exact yU @wrR.eq_1 | refine yR @wrR.eq_1 ?_))
 have dk:decide ((k:Int)<(T.length:Int))=false:=decide_eq_false (by omega)
 rw [List.take_of_length_le (by omega)] at hZ
 rw [←hZ] at hj ⊢
 rw [hj]
 iterate 4 (first | refine zR @dk ?_ | exact zU @dk)
 refine SWp.le (Zau (N:=85) (gc:=KE+1) (l:=[]) (h:=[(1000,0,.row false (wrR g3 ((Z.length+7) / 8) Z.length)),(1001,g3,.row (nl0 ((Z.length+7) / 8)) ((Zat Z).map u8))]) rfl ?_ ?_ ?_) ?_
 ·have:=ZGx
  show ge≤KE+1
  omega
 iterate 2 (case _=>(first | exact yU @wrR.eq_1 | refine yR @wrR.eq_1 ?_))
 refine SWp.renew 1001 g3 (o:=.row (nl0 ((Z.length+7) / 8)) ((Zat Z).map u8)) (by (first | exact yT | refine yS ?_)) ?_
 refine SWp.le (Zau (N:=85) (gc:=KE+2) (l:=[]) (h:=[(1000,0,.row false (wrR (KE+1) ((Z.length+7) / 8) Z.length)),(1001,KE+1,.row (nl0 ((Z.length+7) / 8)) ((Zat Z).map u8))]) rfl ?_ ?_ ?_) ?_
 iterate 3 (case _=>(first | exact yU (ja5 @Zbm @Zbn @Zow iR @wrR.eq_1) | refine yR (ja5 @Zbm @Zbn @Zow iR @wrR.eq_1) ?_))
 repeat (first | refine zR (ja2 iR @wrR.eq_1) ?_ | exact zU (ja2 iR @wrR.eq_1))
theorem Zth:∀ {Q:List Nat},(Q.flatMap fun x=>Zbq x 3).length=3*Q.length
 | []=>rfl
 | x::Q=>by rw [List.flatMap_cons,List.length_append,Zap,Zth,List.length_cons];omega
theorem Zti {F:List Nat} (oF:LnOk F):∀ {T:List (Nat × Nat × Nat)},(∀ s∈T,SyOk F s)→(T.flatMap (ZjJ F)).length≤39*T.length
 | [],_=>Nat.le_refl _
 | s::T,h=>by
  rw [List.flatMap_cons,List.length_append,List.length_cons]
  have:=Zfz oF (h s (by simp))
  have:=Zti oF (T:=T) fun t ht=>h t (by simp [ht])
  omega
theorem ZjL {l d:List Nat} (ol:LnOk l) (od:LnOk d) (l1:l.length=286) (d1:d.length=30):(ZlW l d).length≤20000∧∀ x∈ZlW l d,x<2:=by
 have k1:=ZcV (l:=l) (q:=257) (by omega)
 have k2:=ZcV (l:=d) (q:=1) (by omega)
 have h15:∀ x∈tdL l d,x≤15:=fun x hx=>(List.mem_append.1 hx).elim (ZeJ ol.small x) (ZeJ od.small x)
 have kl:(tdL l d).length≤320:=by rw [tdL,List.length_append];omega
 obtain ⟨o1,o2⟩:=Zwf h15
 have oF:LnOk (tdF l d):=Zjn (Zwg (by omega))
 have lF:(tdF l d).length=19:=by rw [tdF,Zcn,ctT,Zbl]
 have lV:(tdO (tdF l d)).length=19:=by rw [tdO,List.length_map];rfl
 have k3:=ZcV (l:=tdO (tdF l d)) (q:=4) (by omega)
 have sy:∀ s∈tls (tdL l d),SyOk (tdF l d) s:=fun s hs=>⟨by rw [lF];exact (o1 s hs).num,by have:=(o1 s hs).more;omega,by have:=(o1 s hs).bits;omega⟩
 have kT:=Zti oF sy
 constructor
 ·rw [ZlW]
  simp only [List.length_append,Zap]
  rw [Zth]
  omega
 ·intro x hx
  rw [ZlW] at hx
  rcases List.mem_append.1 hx with hx | hx
  ·exact Ze3 x hx
  rcases List.mem_append.1 hx with hx | hx
  ·exact Ze3 x hx
  rcases List.mem_append.1 hx with hx | hx
  ·exact Ze3 x hx
  rcases List.mem_append.1 hx with hx | hx
  ·obtain ⟨y,_,hx⟩:=List.mem_flatMap.1 hx
   exact Ze3 x hx
  ·obtain ⟨y,_,hx⟩:=List.mem_flatMap.1 hx
   exact ZkR x hx
def bsL (P:List (Nat × Nat)):List Nat:=ZcU (ZkU P) 15
def bsD (P:List (Nat × Nat)):List Nat:=ZcU (Zu3 P) 15
def Zyx (P:List (Nat × Nat)):List Nat:=Zbq 1 1++Zbq 2 2++(ZlW (bsL P) (bsD P)++Zne (bsL P) (bsD P) P)
theorem ZnX {P:List (Nat × Nat)} (h:P.length≤20000):LnOk (bsL P)∧LnOk (bsD P)∧(bsL P).length=286∧(bsD P).length=30 :=
 ⟨Zjn (ZlV h),Zjn (ZnW h),by rw [bsL,Zcn,ZkU,Zbl],by rw [bsD,Zcn,Zu3,Zbl]⟩
set_option maxHeartbeats 1000000 in
set_option maxRecDepth 100000 in
theorem ZnI [Tabs Tryz.prog] (ht:Tabs.tab Tryz.prog 0=some (tlO.map nA)) (L:List Nat) (hl:L.length≤50000) (hL:∀ x∈L,x<2) (nl:Bool) (P:List (Nat × Nat)) (hP:P.length≤20000) (hok:∀ p∈P,ZkQ p) (i m:Nat) (hi:i=L.length) (hm:m=(L.length+7) / 8) (j:Nat) (hj:j=(L++Zyx P).length) :
  HCon Tryz.prog ZdA [.agg [.op 1000 0 0],.sl nl (some 2) (P.map pcA)] [.row false (wrR 0 m i),.row (nl0 m) ((Zat L).map u8)] (.tup [])
   [(1000,0,.row false (wrR (127+(KE+2)+(KE+1)) ((j+7) / 8) j)),(1001,127+(KE+2)+(KE+1),.row (nl0 ((j+7) / 8)) ((Zat (L++Zyx P)).map u8))] (127+(KE+2)+(KE+2)):=by
 refine HCon.of' mix Tryz.func23 rfl Tryz.ntmps23 Zhl Zhm (by simp) ?_ ZlR ?_
 ·simp only [AV.gl.glL,AV.gl,and_true,true_and]
  exact ⟨by omega,Zae _ _ Zec⟩
 unfold ZdD
 obtain ⟨ol,od,l1,d1⟩:=ZnX hP
 obtain ⟨t1,t2⟩:=ZjL ol od l1 d1
 obtain ⟨X,hX⟩:∃ X,X=L++(Zbq 1 1++Zbq 2 2):=⟨_,rfl⟩
 obtain ⟨Z,hZ⟩:∃ Z,Z=X++ZlW (bsL P) (bsD P):=⟨_,rfl⟩
 obtain ⟨Y,hY⟩:∃ Y,Y=L++Zyx P:=⟨_,rfl⟩
 have hXl:X.length=i+1+2:=by rw [hX,List.length_append,List.length_append,Zap,Zap,hi]
 have hX2:∀ x∈X,x<2:=fun x hx=>by
  rw [hX] at hx
  rcases List.mem_append.1 hx with hx | hx
  ·exact hL x hx
  ·rcases List.mem_append.1 hx with hx | hx <;> exact Ze3 x hx
 have hZl:Z.length≤i+1+2+20000:=by rw [hZ,List.length_append];omega
 have hZ2:∀ x∈Z,x<2:=fun x hx=>by rw [hZ] at hx;exact (List.mem_append.1 hx).elim (hX2 x) (t2 x)
 have hYe:Z++Zne (bsL P) (bsD P) P=Y:=by rw [hZ,hX,hY,Zyx];simp only [List.append_assoc]
 have p1:=Zg3 L (by omega) hL 1 2 (by omega) (by omega) i m hi hm
 have p2:=Zrx ht X (by omega) hX2 (bsL P) (bsD P) ol od l1 d1 (i+1+2) ((i+1+2+7) / 8) hXl.symm (by rw [hXl]) Z.length (by rw [hZ])
 have p3:=Zjp Z (by omega) hZ2 nl P hP hok (bsL P) (bsD P) ol od (by omega) (by omega) Z.length ((Z.length+7) / 8) rfl rfl j (by rw [hYe,hj,hY])
 have pb:=Zu4 nl P hP hok
 rw [←bsL,←bsD] at pb
 rw [hYe] at p3
 rw [←hZ] at p2
 rw [←hY]
 rw [←hX] at p1
 have hrF:∀ ρ,ren.renL ρ ((bsL P).map nA)=(bsL P).map nA:=fun ρ=>Zbb ρ _ Zab
 obtain ⟨l,hl2⟩:∃ F,F=bsL P:=⟨_,rfl⟩
 obtain ⟨d,hd2⟩:∃ F,F=bsD P:=⟨_,rfl⟩
 rw [←hl2,←hd2] at p2 p3 pb
 obtain ⟨A,hA⟩:∃ A,A=P.map pcA:=⟨_,rfl⟩
 have hrA:∀ ρ,ren.renL ρ A=A:=fun ρ=>by rw [hA];exact Zbb ρ _ Zec
 have fA:AV.free.freeL A=true:=by rw [hA];exact Zec
 rw [←hA] at p3 pb ⊢
 obtain ⟨C,hC⟩:∃ C,C=ZbM l:=⟨_,rfl⟩
 obtain ⟨D,hD⟩:∃ D,D=ZbM d:=⟨_,rfl⟩
 rw [Zqo,←hC,←hD] at p2 p3 pb
 repeat (first | refine zS ?_ | exact zT)
 refine Zay _ (.inl ⟨by simp only [AV.free,AV.free.freeL,fA,Bool.and_self],pb⟩) ?_
 repeat (first | refine zS ?_ | exact zT)
 refine Zag [(1000,0),(1001,0)] 2000 p1 (by simp) (by simp) ?_ ?_ ?_
 iterate 2 (case _=>(first | exact yU (ja2 @wrR.eq_1 iR) | refine yR (ja2 @wrR.eq_1 iR) ?_))
 repeat (first | refine zR (ja2 @wrR.eq_1 iR) ?_ | exact zU (ja2 @wrR.eq_1 iR))
 refine Zag [(1000,0),(1001,126)] 3000 p2 (by simp) (by simp) ?_ ?_ ?_
 iterate 2 (case _=>(first | exact yU (ja2 @wrR.eq_1 iR) | refine yR (ja2 @wrR.eq_1 iR) ?_))
 repeat (first | refine zR (ja2 @wrR.eq_1 iR) ?_ | exact zU (ja2 @wrR.eq_1 iR))
 refine Zag [(1000,0),(1001,127+(KE+1))] 4000 p3 (by simp) (by simp) ?_ ?_ ?_
 iterate 2 (case _=>(first | exact yU (ja3 @wrR.eq_1 iR @hrA) | refine yR (ja3 @wrR.eq_1 iR @hrA) ?_))
 repeat (first | refine zR (ja2 @wrR.eq_1 iR) ?_ | exact zU (ja2 @wrR.eq_1 iR))
theorem Zqw:Zat []=[]:=rfl
theorem ZmL {b:List UInt8}:(stL b).length=b.length+5*((b.length-1) / 65535+1):=by
 rw [stL,List.length_append,ZmJ (by omega),Zb0,List.length_drop];omega
set_option maxHeartbeats 1000000 in
set_option maxRecDepth 100000 in
theorem Ztj [Tabs Tryz.prog] (nl:Bool) (b:List UInt8) (hb:b.length≤170000):Con Tryz.prog Za5 [.sl nl none (b.map u8),.sc (.int .i64 0)] (.tup [.sl false none ((stL b).map u8),.sc (.int .i64 0)]):=by
 refine Con.of' mix Tryz.func9 rfl Tryz.ntmps9 ZcS ZcT (by simp) (by simp only [AV.free,AV.free.freeL,Zak,Bool.and_self]) (by simp only [AV.free,AV.free.freeL,Zak,Bool.and_self]) ?_
 unfold Zcd
 obtain ⟨n,hn⟩:∃ n,n=(stL b).length:=⟨_,rfl⟩
 have hnl:=ZmL (b:=b)
 have hn0:nl0 n=false:=Zcg (by omega)
 have ps:=Zo7 nl b hb n hn
 have pb:=Zii n (8*n) (stL b) hn.symm (by omega)
 have nw:=Ze5
 have d:decide ((16777216:Int)<(b.length:Int))=false:=decide_eq_false (by omega)
 obtain ⟨B,hB⟩:∃ B,B=stL b:=⟨_,rfl⟩
 rw [←hB] at ps pb ⊢
 rw [hn0] at ps pb
 repeat (first | refine zR (ja2 @d @List.length_map.{0,0}) ?_ | exact zU (ja2 @d @List.length_map.{0,0}))
 refine Zag [] 2000 nw (by simp) (by simp) ?_ ?_ ?_
 iterate 2 (case _=>(first | exact yT | refine yS ?_))
 repeat (first | refine zR iR ?_ | exact zU iR)
 refine Zag [(2002,1),(2100,2)] 3000 ps (by simp) (by simp) ?_ ?_ ?_
 iterate 2 (case _=>(first | exact yU (ja2 @wrR.eq_1 iR) | refine yR (ja2 @wrR.eq_1 iR) ?_))
 repeat (first | refine zR (ja2 @wrR.eq_1 iR) ?_ | exact zU (ja2 @wrR.eq_1 iR))
 refine Zag [(2002,1),(2100,2255)] 4000 pb (by simp) (by simp) ?_ ?_ ?_
 iterate 2 (case _=>(first | exact yU (ja2 @wrR.eq_1 iR) | refine yR (ja2 @wrR.eq_1 iR) ?_))
 repeat (first | refine zR (ja2 @wrR.eq_1 iR) ?_ | exact zU (ja2 @wrR.eq_1 iR))
theorem Zwi {P:List (Nat × Nat)} (h:P.length≤20000) (hok:∀ p∈P,ZkQ p):3≤(ZyJ P).length∧(ZyJ P).length≤2000000:=by
 rw [ZyJ,Zne]
 simp only [List.length_append,Zap]
 have h1:=ZlS ZoZ Zs6 Zki.1 Zki.2 hok
 have h2:=Zfz ZoZ (Ztf Zki.1)
 omega
theorem Zwj {P:List (Nat × Nat)} (h:P.length≤20000) (hok:∀ p∈P,ZkQ p):3≤(Zyx P).length∧(Zyx P).length≤2000000:=by
 obtain ⟨ol,od,l1,d1⟩:=ZnX h
 have t1:=(ZjL ol od l1 d1).1
 rw [Zyx,Zne]
 simp only [List.length_append,Zap]
 have h1:=ZlS ol od (by omega) (by omega) hok
 have h2:=Zfz ol (Ztf (by omega))
 omega
def ZEH (b:List UInt8):List UInt8:=Zat (ZyJ (ZjH b))
theorem ZkV {b:List UInt8}:(ZEH b).length=((ZyJ (ZjH b)).length+7) / 8:=Za3
set_option maxHeartbeats 1000000 in
set_option maxRecDepth 100000 in
theorem ZBP [Tabs Tryz.prog] (nl:Bool) (b:List UInt8) (hb:b.length≤20000):Con Tryz.prog Za5 [.sl nl none (b.map u8),.sc (.int .i64 1)] (.tup [.sl false none ((ZEH b).map u8),.sc (.int .i64 0)]):=by
 refine Con.of' mix Tryz.func9 rfl Tryz.ntmps9 ZcS ZcT (by simp) (by simp only [AV.free,AV.free.freeL,Zak,Bool.and_self]) (by simp only [AV.free,AV.free.freeL,Zak,Bool.and_self]) ?_
 unfold Zcd
 obtain ⟨j,hj⟩:∃ j,j=(ZyJ (ZjH b)).length:=⟨_,rfl⟩
 have hj3:=Zwi (Zih hb) (Zge hb)
 rw [←hj] at hj3
 have hn0:nl0 ((j+7) / 8)=false:=Zcg (by omega)
 have hol:=ZkV (b:=b)
 rw [←hj] at hol
 have pc:=Zqu nl b hb
 have ps:=ZpI [] (by simp) (by simp) (nl0 (ZjH b).length) (ZjH b) (Zih hb) (Zge hb) 0 0 rfl rfl j hj
 rw [List.nil_append,Zqw,←ZEH] at ps
 obtain ⟨q,hq⟩:∃ q,126+(KE+1)=q+1:=⟨126+KE,by omega⟩
 have hq2:126+(KE+2)=q+2:=by omega
 rw [hq,hq2] at ps
 have pb:=Zii ((j+7) / 8) j (ZEH b) hol (by omega)
 have nw:=Ze5
 have d:decide ((16777216:Int)<(b.length:Int))=false:=decide_eq_false (by omega)
 obtain ⟨B,hB⟩:∃ B,B=ZEH b:=⟨_,rfl⟩
 rw [←hB] at ps pb ⊢
 rw [hn0] at ps pb
 obtain ⟨P,hP⟩:∃ P,P=(ZjH b).map pcA:=⟨_,rfl⟩
 have hrP:∀ ρ,ren.renL ρ P=P:=fun ρ=>by rw [hP];exact Zbb ρ _ Zec
 rw [←hP] at pc ps
 repeat (first | refine zR (ja2 @d @List.length_map.{0,0}) ?_ | exact zU (ja2 @d @List.length_map.{0,0}))
 refine Zag [] 2000 nw (by simp) (by simp) ?_ ?_ ?_
 iterate 2 (case _=>(first | exact yT | refine yS ?_))
 repeat (first | refine zR iR ?_ | exact zU iR)
 refine Zay _ (.inl ⟨by simp only [AV.free,AV.free.freeL,Zak,Bool.and_self],pc⟩) ?_
 repeat (first | refine zR iR ?_ | exact zU iR)
 refine Zag [(2002,1),(2100,2)] 3000 ps (by simp) (by simp) ?_ ?_ ?_
 iterate 2 (case _=>(first | exact yU (ja4 @wrR.eq_1 iR @hrP @ZEF) | refine yR (ja4 @wrR.eq_1 iR @hrP @ZEF) ?_))
 repeat (first | refine zR (ja2 @wrR.eq_1 iR) ?_ | exact zU (ja2 @wrR.eq_1 iR))
 refine Zag [(2002,1),(2100,4+(q+1))] 4000 pb (by simp) (by simp) ?_ ?_ ?_
 iterate 2 (case _=>(first | exact yU (ja2 @wrR.eq_1 iR) | refine yR (ja2 @wrR.eq_1 iR) ?_))
 repeat (first | refine zR (ja2 @wrR.eq_1 iR) ?_ | exact zU (ja2 @wrR.eq_1 iR))
def ZD5 (b:List UInt8):List UInt8:=Zat (Zyx (ZjH b))
theorem ZkW {b:List UInt8}:(ZD5 b).length=((Zyx (ZjH b)).length+7) / 8:=Za3
set_option maxHeartbeats 1000000 in
set_option maxRecDepth 100000 in
theorem ZBQ [Tabs Tryz.prog] (ht:Tabs.tab Tryz.prog 0=some (tlO.map nA)) (nl:Bool) (b:List UInt8) (hb:b.length≤20000):Con Tryz.prog Za5 [.sl nl none (b.map u8),.sc (.int .i64 2)] (.tup [.sl false none ((ZD5 b).map u8),.sc (.int .i64 0)]):=by
 refine Con.of' mix Tryz.func9 rfl Tryz.ntmps9 ZcS ZcT (by simp) (by simp only [AV.free,AV.free.freeL,Zak,Bool.and_self]) (by simp only [AV.free,AV.free.freeL,Zak,Bool.and_self]) ?_
 unfold Zcd
 obtain ⟨j,hj⟩:∃ j,j=(Zyx (ZjH b)).length:=⟨_,rfl⟩
 have hj3:=Zwj (Zih hb) (Zge hb)
 rw [←hj] at hj3
 have hn0:nl0 ((j+7) / 8)=false:=Zcg (by omega)
 have hol:=ZkW (b:=b)
 rw [←hj] at hol
 have pc:=Zqu nl b hb
 have ps:=ZnI ht [] (by simp) (by simp) (nl0 (ZjH b).length) (ZjH b) (Zih hb) (Zge hb) 0 0 rfl rfl j hj
 rw [List.nil_append,Zqw,←ZD5] at ps
 obtain ⟨q,hq⟩:∃ q,127+(KE+2)+(KE+1)=q+1:=⟨127+(KE+2)+KE,by omega⟩
 have hq2:127+(KE+2)+(KE+2)=q+2:=by omega
 rw [hq,hq2] at ps
 have pb:=Zii ((j+7) / 8) j (ZD5 b) hol (by omega)
 have nw:=Ze5
 have d:decide ((16777216:Int)<(b.length:Int))=false:=decide_eq_false (by omega)
 obtain ⟨B,hB⟩:∃ B,B=ZD5 b:=⟨_,rfl⟩
 rw [←hB] at ps pb ⊢
 rw [hn0] at ps pb
 obtain ⟨P,hP⟩:∃ P,P=(ZjH b).map pcA:=⟨_,rfl⟩
 have hrP:∀ ρ,ren.renL ρ P=P:=fun ρ=>by rw [hP];exact Zbb ρ _ Zec
 rw [←hP] at pc ps
 repeat (first | refine zR (ja2 @d @List.length_map.{0,0}) ?_ | exact zU (ja2 @d @List.length_map.{0,0}))
 refine Zag [] 2000 nw (by simp) (by simp) ?_ ?_ ?_
 iterate 2 (case _=>(first | exact yT | refine yS ?_))
 repeat (first | refine zR iR ?_ | exact zU iR)
 refine Zay _ (.inl ⟨by simp only [AV.free,AV.free.freeL,Zak,Bool.and_self],pc⟩) ?_
 repeat (first | refine zR iR ?_ | exact zU iR)
 refine Zag [(2002,1),(2100,2)] 3000 ps (by simp) (by simp) ?_ ?_ ?_
 iterate 2 (case _=>(first | exact yU (ja4 @wrR.eq_1 iR @hrP @ZEF) | refine yR (ja4 @wrR.eq_1 iR @hrP @ZEF) ?_))
 repeat (first | refine zR (ja2 @wrR.eq_1 iR) ?_ | exact zU (ja2 @wrR.eq_1 iR))
 refine Zag [(2002,1),(2100,4+(q+1))] 4000 pb (by simp) (by simp) ?_ ?_ ?_
 iterate 2 (case _=>(first | exact yU (ja2 @wrR.eq_1 iR) | refine yR (ja2 @wrR.eq_1 iR) ?_))
 repeat (first | refine zR (ja2 @wrR.eq_1 iR) ?_ | exact zU (ja2 @wrR.eq_1 iR))
theorem k2:AV.sc (.int .u32 2)=w32 2:=rfl
def ZIT (r:List UInt8 × Nat):AV:=if r.2=0 then .tup [.sl false none (r.1.map u8),int 0] else .tup [.sc (.slice none 0 0),int (r.2:Int)]
def ZD6 (b:List UInt8) (how:Int):List UInt8 × Nat:=if how=0 then (stL b,0) else if how=1 then (ZEH b,0) else if how=2 then (ZD5 b,0) else ([],1)
set_option maxRecDepth 100000 in
theorem Zu5 [Tabs Tryz.prog] (nl:Bool) (b:List UInt8) (how:Int) (h:how<0∨2<how):Con Tryz.prog Za5 [.sl nl none (b.map u8),int how] (.tup [.sc (.slice none 0 0),int 1]):=by
 refine Con.of' mix Tryz.func9 rfl Tryz.ntmps9 ZcS ZcT (by simp) (by simp only [AV.free,AV.free.freeL,Zak,int,Bool.and_self]) rfl ?_
 unfold Zcd
 by_cases c:how<0
 ·have d:=decide_eq_true c
  repeat (first | refine zR @d ?_ | exact zU @d)
 ·have d:=decide_eq_false c
  have d2:decide (2<how)=true:=decide_eq_true (by omega)
  repeat (first | refine zR (ja2 @d @d2) ?_ | exact zU (ja2 @d @d2))
theorem ZBR [Tabs Tryz.prog] (ht:Tabs.tab Tryz.prog 0=some (tlO.map nA)) (nl:Bool) (b:List UInt8) (hb:b.length≤20000) (how:Int):Con Tryz.prog Za5 [.sl nl none (b.map u8),int how] (ZIT (ZD6 b how)):=by
 unfold ZD6
 by_cases c0:how=0
 ·subst c0;rw [if_pos rfl];exact Ztj nl b (by omega)
 rw [if_neg c0]
 by_cases c1:how=1
 ·subst c1;rw [if_pos rfl];exact ZBP nl b hb
 rw [if_neg c1]
 by_cases c2:how=2
 ·subst c2;rw [if_pos rfl];exact ZBQ ht nl b hb
 rw [if_neg c2]
 exact Zu5 nl b how (by omega)
def ZGW (nm:List UInt8) (mt:Int):Nat:=if mt<0∨4294967295<mt then 1 else if 200<nm.length∨0≤Lib.indexByte nm 0 then 10 else 0
set_option maxRecDepth 100000 in
theorem Zu6 [Tabs Tryz.prog] (nm:List UInt8) (mt:Int) (nl:Bool) (b:List UInt8) (how:Int) (h:ZGW nm mt≠0):Con Tryz.prog ZfR [mbA ⟨nm.toArray⟩ mt nl b,int how] (.tup [.sc (.slice none 0 0),int (ZGW nm mt:Int)]):=by
 refine Con.of' mix Tryz.func13 rfl Tryz.ntmps13 Zoy Zoz (by simp) (by simp only [mbA,AV.free,AV.free.freeL,Zak,int,Bool.and_self]) rfl ?_
 unfold Zkr
 have p1:=Zga ⟨nm.toArray⟩ 0
 rw [show (⟨nm.toArray⟩:ByteArray).data.toList=nm from rfl] at p1
 unfold ZGW at h ⊢
 by_cases c1:mt<0
 ·rw [if_pos (.inl c1)]
  have d1:=decide_eq_true c1
  repeat (first | refine zR (ja2 @mbA.eq_1 @d1) ?_ | exact zU (ja2 @mbA.eq_1 @d1))
 have d1:=decide_eq_false c1
 by_cases c2:4294967295<mt
 ·rw [if_pos (.inr c2)]
  have d2:=decide_eq_true c2
  repeat (first | refine zR (ja3 @mbA.eq_1 @d1 @d2) ?_ | exact zU (ja3 @mbA.eq_1 @d1 @d2))
 have d2:=decide_eq_false c2
 rw [if_neg (by omega)] at h ⊢
 by_cases c3:200<nm.length
 ·rw [if_pos (.inl c3)]
  have d3:decide ((200:Int)<(nm.length:Int))=true:=decide_eq_true (by omega)
  repeat (first | refine zR (ja4 @mbA.eq_1 @d1 @d2 @d3) ?_ | exact zU (ja4 @mbA.eq_1 @d1 @d2 @d3))
 have d3:decide ((200:Int)<(nm.length:Int))=false:=decide_eq_false (by omega)
 by_cases c4:0≤Lib.indexByte nm 0
 ·rw [if_pos (.inr c4)]
  have d4:=decide_eq_true c4
  repeat (first | refine zR (ja4 @mbA.eq_1 @d1 @d2 @d3) ?_ | exact zU (ja4 @mbA.eq_1 @d1 @d2 @d3))
  refine Zay _ (.inl ⟨rfl,p1⟩) ?_
  repeat (first | refine zR (ja2 @mbA.eq_1 @d4) ?_ | exact zU (ja2 @mbA.eq_1 @d4))
 ·exact absurd (if_neg (by omega)) h
def Rds {α:Type} (t:BT α) (X:List Nat) (a:α):Prop:=∀ (B R:List Nat) (i:Nat),i≤B.length→B.drop i=X++R→t.run B i = .ok a (i+X.length)
theorem Rds.ret {α:Type} {a:α}:Rds (.ret a) [] a:=fun B R i hi h=>rfl
theorem Rds.bnd {α β:Type} {t:BT α} {f:α→BT β} {X Y:List Nat} {a:α} {b:β} (h:Rds t X a) (h2:Rds (f a) Y b):Rds (t.bnd f) (X++Y) b:=fun B R i hi hd=>by
 rw [List.append_assoc] at hd
 have hl:=congrArg List.length hd
 rw [List.length_drop,List.length_append] at hl
 rw [Zav,h B (Y++R) i hi hd]
 simp only [BR.bnd]
 rw [h2 B R (i+X.length) (by omega) (by rw [←List.drop_drop,hd,List.drop_left]),List.length_append,Nat.add_assoc]
theorem Rds.bnd0 {α β:Type} {t:BT α} {f:α→BT β} {X:List Nat} {a:α} {b:β} (h:Rds t X a) (h2:Rds (f a) [] b):Rds (t.bnd f) X b:=by
 have:=h.bnd h2
 rwa [List.append_nil] at this
theorem Zil {v n:Nat}:Rds (ZkX n) (Zbq v n) (v % 2^n):=fun B R i hi hd=>by
 have hl:=congrArg List.length hd
 rw [List.length_drop,List.length_append,Zap] at hl
 rw [ZnP hi,if_pos (by omega),hd,List.take_append_of_le_length (by rw [Zap];exact Nat.le_refl _),List.take_of_length_le (by rw [Zap];exact Nat.le_refl _),ZjK,Zap]
theorem Zpc {l:List Nat} (ol:LnOk l) {s:Nat} (hs:s<l.length) (h0:l.getD s 0≠0):Rds (ZyE l 15 0 0) (ZnO ((ZbM l).getD s 0) (l.getD s 0)) s:=fun B R i hi hd=>by
 obtain ⟨m,hm⟩:∃ m,l.getD s 0=m:=⟨_,rfl⟩
 have hm15:=Zjo ol.small hs
 have hc:(ZbM l).getD s 0=Zbx l s:=by simp [ZbM,List.getD,hs]
 rw [hm] at h0 hm15 hd ⊢
 rw [hc] at hd ⊢
 have hl:=congrArg List.length hd
 rw [List.length_append,Zdx] at hl
 have hn:=ZGd ol.small ol.kr hs hm h0 hm15 (B:=B.drop i) (by omega) (fun j hj=>by
  rw [hd]
  simp [List.getD,ZnO,List.getElem?_append,hj])
 rw [ZoJ,hn,ZAv,if_pos rfl,Zdx]
theorem Zpd {l:List Nat} {s:Nat} (h:l.getD s 0≠0):s<l.length:=by
 rcases Nat.lt_or_ge s l.length with c | c
 ·exact c
 ·exact absurd (by simp [List.getD,c]) h
theorem ZBS:∀ w,w<255→ZiQ w 2<28∧(ZiQ w 2<8→w=ZiQ w 2∧ZbE w 2=0)∧(8≤ZiQ w 2→ZbE w 2=ZiQ w 2 / 4-1∧(4+ZiQ w 2 % 4)*2^(ZiQ w 2 / 4-1)+w % 2^(ZiQ w 2 / 4-1)=w):=by decide +kernel
theorem ZIm {v:Nat}:Zbq v 0=[]:=rfl
theorem Zry {v w n:Nat}:Rds (Zhy v n) (Zbq w n) (v+w % 2^n):=Zil.bnd0 Rds.ret
theorem ZGD {p:Nat × Nat} (hp:ZkQ p) (h0:0<p.2):Rds (Zrf ((Zig p).1-257)) (Zbq (Zig p).2.1 (Zig p).2.2) p.1:=by
 obtain ⟨v,b⟩:=p
 simp only [ZkQ] at hp
 simp only at h0
 by_cases c:v=258
 ·subst c
  simp only [Zig,if_neg (show ¬ b=0 by omega),if_true]
  rw [Zrf,if_neg (by omega),if_pos (by omega),ZIm]
  exact Rds.ret
 ·simp only [Zig,if_neg (show ¬ b=0 by omega),if_neg c]
  obtain ⟨h1,h2,h3⟩:=ZBS (v-3) (by omega)
  rw [Nat.add_sub_cancel,Zrf,if_neg (by omega),if_neg (by omega)]
  by_cases c8:ZiQ (v-3) 2<8
  ·obtain ⟨e1,e2⟩:=h2 c8
   rw [if_pos c8,e2,ZIm,←e1,show 3+(v-3)=v by omega]
   exact Rds.ret
  ·obtain ⟨e1,e2⟩:=h3 (by omega)
   rw [if_neg c8,←e1]
   rw [←e1] at e2
   have:=Zry (v:=3+(4+ZiQ (v-3) 2 % 4)*2^ZbE (v-3) 2) (w:=v-3) (n:=ZbE (v-3) 2)
   rw [show 3+(4+ZiQ (v-3) 2 % 4)*2^ZbE (v-3) 2+(v-3) % 2^ZbE (v-3) 2=v by omega] at this
   exact this
theorem ZBT {w:Nat} (h:w<32768):ZiQ w 1<30∧(ZiQ w 1<4→w=ZiQ w 1∧ZbE w 1=0)∧(4≤ZiQ w 1→ZbE w 1=ZiQ w 1 / 2-1∧(2+ZiQ w 1 % 2)*2^(ZiQ w 1 / 2-1)+w % 2^(ZiQ w 1 / 2-1)=w):=by
 refine ⟨ZBC h,?_⟩
 by_cases c:w=0
 ·subst c;decide
 ·obtain ⟨n,h1,h2⟩:∃ n,2^n≤w∧w<2^(n+1):=⟨w.log2,Nat.log2_self_le c,Nat.lt_log2_self⟩
  have hn:n<15:=by
   rcases Nat.lt_or_ge n 15 with h | h
   ·exact h
   ·have:2^15≤2^n:=Nat.pow_le_pow_right (by omega) h
    omega
  have hb:=Zwb h1 h2 (by omega)
  have hl:ZbE w 1=n-1:=by rw [ZbE,hb];omega
  by_cases c1:n=0
  ·subst c1
   have:w=1:=by omega
   subst this;decide
  ·obtain ⟨k,rfl⟩:∃ k,n=k+1:=⟨n-1,by omega⟩
   rw [Nat.add_sub_cancel] at hl
   obtain ⟨q,hq⟩:∃ q,q=w / 2^k:=⟨_,rfl⟩
   have hq4:q<4:=by
    rw [hq,Nat.div_lt_iff_lt_mul (Nat.two_pow_pos _),show 4*2^k=2^(k+1+1) by rw [Nat.pow_succ,Nat.pow_succ];omega]
    exact h2
   have hq2:2≤q:=by
    rw [hq,Nat.le_div_iff_mul_le (Nat.two_pow_pos _),show 2*2^k=2^(k+1) by rw [Nat.pow_succ];omega]
    exact h1
   have hs:ZiQ w 1=k*2+q:=by rw [ZiQ,hl,←hq,Nat.pow_one]
   have hw:2^k*q+w % 2^k=w:=by rw [hq];exact Nat.div_add_mod w (2^k)
   rw [hs,hl]
   refine ⟨fun h4=>?_,fun h4=>?_⟩
   ·obtain rfl:k=0:=by omega
    rw [Nat.pow_zero,Nat.div_one] at hq
    omega
   ·have e1:(k*2+q) / 2-1=k:=by omega
    have e2:2+(k*2+q) % 2=q:=by omega
    rw [e1,e2,Nat.mul_comm q]
    exact ⟨rfl,hw⟩
theorem ZGE {p:Nat × Nat} (h1:0<p.2) (h2:p.2≤32768):Rds (ZsJ (Znd p).1) (Zbq (Znd p).2.1 (Znd p).2.2) p.2:=by
 obtain ⟨v,b⟩:=p
 simp only at h1 h2
 simp only [Znd]
 obtain ⟨f1,f2,f3⟩:=ZBT (w:=b-1) (by omega)
 rw [ZsJ,if_neg (by omega)]
 by_cases c4:ZiQ (b-1) 1<4
 ·obtain ⟨e1,e2⟩:=f2 c4
  rw [if_pos c4,e2,ZIm,←e1,show 1+(b-1)=b by omega]
  exact Rds.ret
 ·obtain ⟨e1,e2⟩:=f3 (by omega)
  rw [if_neg c4,←e1]
  rw [←e1] at e2
  have:=Zry (v:=1+(2+ZiQ (b-1) 1 % 2)*2^ZbE (b-1) 1) (w:=b-1) (n:=ZbE (b-1) 1)
  rw [show 1+(2+ZiQ (b-1) 1 % 2)*2^ZbE (b-1) 1+(b-1) % 2^ZbE (b-1) 1=b by omega] at this
  exact this
def pcD (out:List UInt8) (p:Nat × Nat):List UInt8:=if p.2=0 then out++[UInt8.ofNat p.1] else cpy out p.2 p.1
def Zwk (most:Nat):List (Nat × Nat)→List UInt8→Prop
 | [],_=>True
 | p::P,out=>(if p.2=0 then out.length<most else p.2≤out.length∧out.length+p.1≤most)∧Zwk most P (pcD out p)
theorem Zrz {m n:Nat} (h:m≤n):∀ {P:List (Nat × Nat)} {out:List UInt8},Zwk m P out→Zwk n P out
 | [],_,_=>trivial
 | p::P,out,hf=>by
  rw [Zwk] at hf ⊢
  refine ⟨?_,Zrz h hf.2⟩
  have:=hf.1
  split at this
  ·rename_i c;rw [if_pos c];omega
  ·rename_i c;rw [if_neg c];omega
def cdP (l d:List Nat) (p:Nat × Nat):Prop:=l.getD (Zig p).1 0≠0∧(0<p.2→d.getD (Znd p).1 0≠0)
theorem ZGF {l d:List Nat} (od:LnOk d) {most:Nat} {out:List UInt8} {p:Nat × Nat} (hp:ZkQ p) (h0:0<p.2) (hc:cdP l d p) (hk:p.2≤out.length) (hm:out.length+p.1≤most) :
  Rds (ZyF most d out ((Zig p).1-257)) (Zbq (Zig p).2.1 (Zig p).2.2++ZjJ d (Znd p)) (cpy out p.2 p.1):=by
 have h2:p.2≤32768:=by have:=hp;simp only [ZkQ] at this;omega
 refine (ZGD hp h0).bnd ?_
 rw [ZjJ]
 refine (Zpc od (Zpd (hc.2 h0)) (hc.2 h0)).bnd ?_
 refine (ZGE h0 h2).bnd0 ?_
 rw [if_neg (by omega),if_neg (by omega)]
 exact Rds.ret
theorem Zwl {p:Nat × Nat} (hp:ZkQ p) (h0:0<p.2):257≤(Zig p).1:=by
 obtain ⟨v,b⟩:=p
 simp only at h0
 simp only [Zig,if_neg (show ¬ b=0 by omega)]
 split <;> simp only <;> omega
theorem ZmM {l d:List Nat} (ol:LnOk l) (od:LnOk d) (he:l.getD 256 0≠0) {most:Nat}:∀ {P:List (Nat × Nat)} {F:Nat} {out:List UInt8},P.length<F→(∀ p∈P,ZkQ p∧cdP l d p)→Zwk most P out→Rds (ZuJ l d most F out) (Zne l d P) (P.foldl pcD out)
 | [],0,_,h,_,_=>by simp at h
 | [],F+1,out,_,_,_=>by
  rw [Zne,List.flatMap_nil,List.nil_append,ZjJ,ZIm,List.append_nil,ZuJ]
  refine (Zpc ol (Zpd he) he).bnd0 ?_
  rw [if_neg (by omega),if_pos rfl]
  exact Rds.ret
 | p::P,0,_,h,_,_=>by simp at h
 | p::P,F+1,out,h,hok,hf=>by
  obtain ⟨hp,hc⟩:=hok p (by simp)
  have ih:=fun (o:List UInt8) (ho:Zwk most P o)=>ZmM ol od he (P:=P) (F:=F) (out:=o) (by simpa using h) (fun q hq=>hok q (by simp [hq])) ho
  rw [Zwk] at hf
  obtain ⟨hf1,hf2⟩:=hf
  have e:Zne l d (p::P)=pcB l d p++Zne l d P:=by simp [Zne,List.append_assoc]
  rw [e,List.foldl_cons,ZuJ]
  by_cases c:p.2=0
  ·rw [if_pos c] at hf1
   have hpc:pcD out p=out++[UInt8.ofNat p.1]:=by rw [pcD,if_pos c]
   have hl:Zig p=(p.1,0,0):=by rw [Zig,if_pos c]
   have h256:p.1<256:=by have:=hp;simp only [ZkQ] at this;omega
   have hc1:=hc.1
   rw [hl] at hc1
   rw [pcB,if_neg (by omega),List.append_nil,ZjJ,hl,ZIm,List.append_nil,hpc]
   rw [hpc] at hf2
   refine (Zpc ol (Zpd hc1) hc1).bnd ?_
   rw [if_pos h256,if_neg (by omega)]
   exact ih _ hf2
  ·rw [if_neg c] at hf1
   have hpc:pcD out p=cpy out p.2 p.1:=by rw [pcD,if_neg c]
   have h257:=Zwl hp (by omega)
   rw [pcB,if_pos (by omega),ZjJ,List.append_assoc,List.append_assoc,hpc]
   rw [hpc] at hf2
   refine (Zpc ol (Zpd hc.1) hc.1).bnd ?_
   rw [if_neg (by omega),if_neg (by omega),←List.append_assoc]
   exact (ZGF od hp (by omega) hc hf1.1 hf1.2).bnd (ih _ hf2)
theorem ZjM {most:Nat}:∀ {P Q:List (Nat × Nat)} {out:List UInt8},Zwk most P out→Zwk most Q (P.foldl pcD out)→Zwk most (P++Q) out
 | [],Q,out,_,h=>h
 | p::P,Q,out,h1,h2=>⟨h1.1,ZjM h1.2 h2⟩
theorem ZnY:∀ {c out:List UInt8},(ZnH c).foldl pcD out=out++c
 | [],out=>by simp [ZnH]
 | x::c,out=>by
  rw [ZnH,List.map_cons,List.foldl_cons,←ZnH,ZnY,pcD,if_pos rfl]
  simp
theorem Zu7 {most:Nat}:∀ {c out:List UInt8},out.length+c.length≤most→Zwk most (ZnH c) out
 | [],out,_=>trivial
 | x::c,out,h=>by
  rw [List.length_cons] at h
  rw [ZnH,List.map_cons,←ZnH]
  refine ⟨by rw [if_pos rfl];omega,Zu7 ?_⟩
  rw [pcD,if_pos rfl,List.length_append,List.length_singleton];omega
theorem Zwm {b:List UInt8} {p k:Nat} (hk:1≤k) (hkp:k≤p):∀ {n:Nat},p+n≤b.length→(∀ i,i<n→b.getD (p-k+i) 0=b.getD (p+i) 0)→cpy (b.take p) k n=b.take (p+n)
 | 0,_,_=>rfl
 | n+1,h,hi=>by
  have ih:=Zwm hk hkp (n:=n) (by omega) fun i hh=>hi i (by omega)
  have hl:(b.take (p+n)).length=p+n:=by rw [List.length_take];omega
  rw [Zrh,ih,hl,←Nat.add_assoc,ZiP (d:=0) (by omega)]
  congr 2
  rw [←hi n (by omega),show p-k+n=p+n-k by omega]
  simp only [List.getD,List.getElem?_take]
  rw [if_pos (by omega)]
theorem ZD7 {b:List UInt8} {s p:Nat} (h:s≤p):b.take s++(b.take p).drop s=b.take p:=by
 have:=List.take_append_drop s (b.take p)
 rwa [List.take_take,Nat.min_eq_left h] at this
theorem Zyy {b:List UInt8}:((Zv9 b).1.foldl pcD []=b.take (Zv9 b).2∧Zwk b.length (Zv9 b).1 [])∧(Zv9 b).2≤b.length:=by
 refine Zwa (b:=b) (fun _ P s=>P.foldl pcD []=b.take s∧Zwk b.length P []) (fun p P s l k h hs hp ho hl=>?_) (fun p P s h=>h) ⟨rfl,trivial⟩
 rcases ho with ho | ⟨h1,h2,h3,h4,h5⟩
 ·simp only at ho;omega
 ·simp only at h1 h2 h3 h4 h5
  have hpl:p+l≤b.length:=by
   have:min 258 (b.length-p)≤b.length-p:=Nat.min_le_right _ _
   omega
  have hm:b.take s++(b.take p).drop s=b.take p:=ZD7 hs
  have hml:(b.take p).length=p:=by rw [List.length_take];omega
  constructor
  ·rw [ZyI,List.foldl_append,List.foldl_append,h.1,ZnY,hm,List.foldl_cons,List.foldl_nil,pcD,if_neg (by simp only;omega)]
   exact Zwm h3 h4 hpl h5
  ·rw [ZyI]
   refine ZjM (ZjM h.2 ?_) ?_
   ·rw [h.1]
    refine Zu7 ?_
    rw [←List.length_append,hm,hml];omega
   ·rw [List.foldl_append,h.1,ZnY,hm]
    refine ⟨?_,trivial⟩
    rw [if_neg (by simp only;omega),hml]
    exact ⟨h4,hpl⟩
theorem ZmN {b:List UInt8}:(ZjH b).foldl pcD []=b∧Zwk b.length (ZjH b) []:=by
 obtain ⟨⟨h1,h2⟩,h3⟩:=Zyy (b:=b)
 constructor
 ·rw [ZjH,List.foldl_append,h1,ZnY,List.take_append_drop]
 ·rw [ZjH]
  refine ZjM h2 ?_
  rw [h1]
  refine Zu7 ?_
  rw [←List.length_append,List.take_append_drop]
  exact Nat.le_refl _
theorem ZEI:∀ s,s<288→fxL.getD s 0≠0:=by decide +kernel
theorem ZGG:∀ s,s<32→fxD.getD s 0≠0:=by decide +kernel
set_option maxRecDepth 100000 in
theorem ZIJ {p:Nat × Nat} (hp:ZkQ p):cdP fxL fxD p:=⟨ZEI _ (Zo6 Zki.1 hp).num,fun h=>ZGG _ (Zte Zki.2 hp h).num⟩
theorem ZIn:ZAx=fxL∧ZAy=fxD:=⟨rfl,rfl⟩
theorem Zwn {most F f how:Nat} (hh:how<3) {X:List Nat} {o:List UInt8} (h:Rds (ZuK most F [] how) X o):Rds (Zpk most F (f+1) []) (Zbq 1 1++Zbq how 2++X) o:=by
 have e:Zbq 1 1++Zbq how 2=Zbq (1+2*how) 3:=by
  obtain rfl | rfl | rfl:how=0∨how=1∨how=2:=by omega
  ·decide
  ·decide
  ·decide
 have e2:(1+2*how) % 2^3=1+2*how:=Nat.mod_eq_of_lt (by omega)
 rw [e,Zpk,ZvJ]
 refine Rds.bnd0 (a:=(true,o)) ?_ (by rw [if_pos rfl];exact Rds.ret)
 have hn:=Zil (v:=1+2*how) (n:=3)
 rw [e2] at hn
 refine hn.bnd ?_
 rw [show (1+2*how) / 2=how by omega]
 refine h.bnd0 ?_
 rw [show decide ((1+2*how) % 2=1)=true from decide_eq_true (by omega)]
 exact Rds.ret
theorem Zwo:∀ {X:List Nat} {j:Nat},(∀ x∈X,x<2)→Zg1 X / 2^j % 2=X.getD j 0
 | [],j,_=>by simp [Zg1]
 | x::r,0,h=>by
  have:=h x (by simp)
  simp only [Zg1,Nat.pow_zero,Nat.div_one,List.getD_cons_zero];omega
 | x::r,j+1,h=>by
  have:=h x (by simp)
  rw [Zg1,Nat.pow_succ,Nat.mul_comm (2^j),←Nat.div_div_eq_div_mul,show (x+2*Zg1 r) / 2=Zg1 r by omega,Zwo fun y hy=>h y (by simp [hy])]
  simp
theorem Zyz {L:List Nat} (h2:∀ x∈L,x<2):∃ R,Zah (Zat L)=L++R:=by
 refine ⟨(Zah (Zat L)).drop L.length,?_⟩
 have hlen:L.length≤(Zah (Zat L)).length:=by rw [Zad,Za3];omega
 have:(Zah (Zat L)).take L.length=L:=by
  refine List.ext_getElem (by rw [List.length_take];omega) fun i h1 hi=>?_
  rw [List.getElem_take]
  have hb:i<8*(Zat L).length:=by rw [Za3];omega
  have hg:=ZlG hb
  have hk:i / 8<(L.length+7) / 8:=by rw [Za3] at hb;omega
  have e1:(Zat L).getD (i / 8) 0=Zhw L (i / 8):=by rw [Zat];simp [List.getD,hk]
  have h8:∀ x∈(L.drop (8*(i / 8))).take 8,x<2:=fun x hx=>h2 x (List.mem_of_mem_drop (List.mem_of_mem_take hx))
  have hlt:Zg1 ((L.drop (8*(i / 8))).take 8)<256:=by
   have:=ZuA h8
   have:2^((L.drop (8*(i / 8))).take 8).length≤2^8:=Nat.pow_le_pow_right (by omega) (by rw [List.length_take];omega)
   omega
  have hm:Zg1 ((L.drop (8*(i / 8))).take 8) % 2^8=Zg1 ((L.drop (8*(i / 8))).take 8):=Nat.mod_eq_of_lt hlt
  have e2:((L.drop (8*(i / 8))).take 8).getD (i % 8) 0=L.getD i 0:=by
   simp only [List.getD,List.getElem?_take,List.getElem?_drop]
   rw [if_pos (Nat.mod_lt _ (by omega)),Nat.div_add_mod]
  rw [ZkL,e1,Zhw,UInt8.toNat_ofNat',hm,Zwo h8,e2] at hg
  have g1:(Zah (Zat L)).getD i 0=(Zah (Zat L))[i]'(by omega):=by simp [List.getD,show i<(Zah (Zat L)).length by omega]
  have g2:L.getD i 0=L[i]:=by simp [List.getD,hi]
  rw [←g1,←g2,hg]
 conv=>rhs;arg 1;rw [←this]
 rw [List.take_append_drop]
theorem ZBU {most F:Nat} {L:List Nat} (h2:∀ x∈L,x<2) {o:List UInt8} (h:Rds (Zpk most F F []) L o) {R:List UInt8}:ZyG F (Zat L++R) most=(o,(Zat L).length,0):=by
 obtain ⟨R0,hR⟩:=Zyz h2
 rw [ZyG,h (Zah (Zat L++R)) (R0++Zah R) 0 (Nat.zero_le _) (by rw [List.drop_zero,Zbj,hR,List.append_assoc]),ZB9,Nat.zero_add,Za3]
theorem Zwp {l d:List Nat} {P:List (Nat × Nat)}:∀ x∈Zne l d P,x<2:=fun x hx=>by
 rcases List.mem_append.1 hx with hx | hx
 ·obtain ⟨p,_,hx⟩:=List.mem_flatMap.1 hx
  exact ZIl x hx
 ·exact ZkR x hx
theorem ZIo {b:List UInt8} (hb:b.length≤20000) {F:Nat} (hF:(ZjH b).length<F) {most:Nat} (hm:b.length≤most) {R:List UInt8}:ZyG F (ZEH b++R) most=(b,(ZEH b).length,0):=by
 obtain ⟨F,rfl⟩:∃ f,F=f+1:=⟨F-1,by omega⟩
 refine ZBU (fun x hx=>?_) (Zwn (by omega) ?_)
 ·rcases List.mem_append.1 hx with hx | hx
  ·rcases List.mem_append.1 hx with hx | hx <;> exact Ze3 x hx
  ·exact Zwp x hx
 rw [ZuK,if_neg (by omega),if_pos rfl,ZIn.1,ZIn.2]
 have h:=ZmM ZoZ Zs6 (ZEI 256 (by omega)) hF (fun p hp=>⟨Zge hb p hp,ZIJ (Zge hb p hp)⟩) (Zrz hm (ZmN (b:=b)).2)
 rw [(ZmN (b:=b)).1] at h
 exact h
theorem Zwq {S:List Nat} {a v:Nat}:∀ {m:Nat},a+m≤S.length→(∀ i,i<m→S.getD (a+i) 0=v)→S.take (a+m)=S.take a++List.replicate m v
 | 0,_,_=>by simp
 | m+1,h,hv=>by
  rw [←Nat.add_assoc,ZiP (d:=0) (by omega),Zwq (m:=m) (by omega) fun i hi=>hv i (by omega),List.replicate_succ',hv m (by omega),List.append_assoc]
theorem Zu8 {S:List Nat} (h15:∀ x∈S,x≤15) {a:Nat} (ha:a<S.length):lsN (tlA S a).1.1+(tlA S a).1.2.1=(tlA S a).2∧(tlA S a).1.2.2=lsB (tlA S a).1.1∧(tlA S a).1.2.1<2^lsB (tlA S a).1.1∧((tlA S a).1.1=16→0<a) ∧
  S.take (a+(tlA S a).2)=S.take a++List.replicate (tlA S a).2 (lsV (tlA S a).1.1 (S.take a)):=by
 obtain ⟨h1,h2,h3⟩:=Zij (l:=S) (a:=a) (f:=S.length) (n:=1)
 rw [←tlN] at h1 h2 h3
 have h2:=h2 (by omega)
 have hx:=Zjo h15 ha
 have hv:∀ m,m≤tlN S a→S.take (a+m)=S.take a++List.replicate m (S.getD a 0):=fun m hm=>Zwq (by omega) fun i hi=>by
  by_cases c:i=0
  ·rw [c,Nat.add_zero]
  ·exact h3 i (by omega) (by omega)
 unfold tlA
 split
 ·rename_i c
  have e1:lsN 18=11:=rfl
  have e2:2^lsB 18=128:=rfl
  refine ⟨by simp only;rw [e1];omega,rfl,by simp only;rw [e2];omega,by simp,?_⟩
  have:=hv (min (tlN S a) 138) (Nat.min_le_left _ _)
  rw [c.1] at this
  exact this
 split
 ·rename_i c
  have e1:lsN 17=3:=rfl
  have e2:2^lsB 17=8:=rfl
  refine ⟨by simp only;rw [e1];omega,rfl,by simp only;rw [e2];omega,by simp,?_⟩
  have:=hv (min (tlN S a) 10) (Nat.min_le_left _ _)
  rw [c.1] at this
  exact this
 split
 ·rename_i c
  have e1:lsN 16=3:=rfl
  have e2:2^lsB 16=4:=rfl
  refine ⟨by simp only;rw [e1];omega,rfl,by simp only;rw [e2];omega,fun _=>c.1,?_⟩
  have:=hv (min (tlN S a) 6) (Nat.min_le_left _ _)
  have e:lsV 16 (S.take a)=S.getD a 0:=by
   rw [lsV,if_pos rfl,List.length_take,Nat.min_eq_left (by omega),c.2.1]
   simp only [List.getD,List.getElem?_take]
   rw [if_pos (by omega)]
  rw [e]
  exact this
 ·have n1:lsN (S.getD a 0)=1:=by rw [lsN,if_neg (by omega),if_neg (by omega)]
  have n2:lsB (S.getD a 0)=0:=by rw [lsB,if_neg (by omega),if_neg (by omega),if_neg (by omega)]
  have n3:lsV (S.getD a 0) (S.take a)=S.getD a 0:=by rw [lsV,if_neg (by omega),if_neg (by omega)]
  refine ⟨by simp only;rw [n1],by simp only;rw [n2],by simp only;rw [n2];omega,fun h=>by simp only at h;omega,?_⟩
  simp only
  rw [n3]
  exact hv 1 h1
theorem ZlX {S:List Nat}:∀ {f a:Nat} {T:List (Nat × Nat × Nat)},Zl3 S f a T=T++Zl3 S f a []
 | 0,a,T=>by simp [Zl3]
 | f+1,a,T=>by
  rw [Zl3,Zl3]
  split
  ·rw [ZlX,ZlX (T:=[]++[(tlA S a).1]),List.nil_append,List.append_assoc]
  ·simp
theorem ZBV {F S:List Nat} (oF:LnOk F) (h15:∀ x∈S,x≤15):∀ {f a g:Nat},a≤S.length→S.length≤a+f→f<g→(∀ s∈Zl3 S f a [],F.getD s.1 0≠0)→Rds (lsT F S.length g (S.take a)) ((Zl3 S f a []).flatMap (ZjJ F)) S
 | f,a,0,_,_,h,_=>by omega
 | 0,a,g+1,h1,h2,_,_=>by
  obtain rfl:a=S.length:=by omega
  rw [Zl3,List.flatMap_nil,lsT,List.take_length,if_pos (Nat.le_refl _)]
  exact Rds.ret
 | f+1,a,g+1,h1,h2,h3,hc=>by
  have hl:(S.take a).length=a:=by rw [List.length_take];omega
  by_cases c:a<S.length
  ·obtain ⟨d1,d2,d3,d4,d5⟩:=Zu8 h15 c
   obtain ⟨o1,o2,o3⟩:=Zwe h15 c
   have e:Zl3 S (f+1) a []=(tlA S a).1::Zl3 S f (a+(tlA S a).2) []:=by
    rw [Zl3,if_pos c,ZlX,List.nil_append];rfl
   rw [e] at hc ⊢
   have ih:=ZBV oF h15 (f:=f) (a:=a+(tlA S a).2) (g:=g) o3 (by omega) (by omega) fun s hs=>hc s (by simp [hs])
   have hs0:=hc _ (by simp:(tlA S a).1∈(tlA S a).1::Zl3 S f (a+(tlA S a).2) [])
   rw [List.flatMap_cons,lsT,hl,if_neg (by omega),ZjJ,List.append_assoc]
   refine (Zpc oF (Zpd hs0) hs0).bnd ?_
   rw [if_neg (fun h=>by
    have h4:=d4 h.1
    have:=congrArg List.length h.2
    rw [hl,List.length_nil] at this
    omega)]
   refine Rds.bnd (a:=(tlA S a).2) ?_ ?_
   ·have:=Zry (v:=lsN (tlA S a).1.1) (w:=(tlA S a).1.2.1) (n:=lsB (tlA S a).1.1)
    rw [Nat.mod_eq_of_lt d3,d1] at this
    rw [d2]
    exact this
   ·rw [if_neg (by omega),←d5]
    exact ih
  ·obtain rfl:a=S.length:=by omega
   rw [Zl3,if_neg c,List.flatMap_nil,lsT,List.take_length,if_pos (Nat.le_refl _)]
   exact Rds.ret
def ZpL:List Nat→Nat→List Nat→List Nat
 | [],_,l=>l
 | x::Q,k,l=>ZpL Q (k+1) (l.set (Zhz.getD k 0) x)
theorem Zwr:∀ {Q:List Nat} {k:Nat} {l:List Nat},(∀ x∈Q,x≤7)→Rds (ZvI Q.length k l) (Q.flatMap fun x=>Zbq x 3) (ZpL Q k l)
 | [],k,l,_=>Rds.ret
 | x::Q,k,l,h=>by
  have hx:=h x (by simp)
  rw [List.length_cons,ZvI,List.flatMap_cons,ZpL]
  have hn:=Zil (v:=x) (n:=3)
  rw [Nat.mod_eq_of_lt (by omega)] at hn
  exact hn.bnd (Zwr fun y hy=>h y (by simp [hy]))
theorem Zqx:∀ {Q:List Nat} {k x:Nat} {l:List Nat},ZpL (Q++[x]) k l=(ZpL Q k l).set (Zhz.getD (k+Q.length) 0) x
 | [],k,x,l=>rfl
 | y::Q,k,x,l=>by
  rw [List.cons_append,ZpL,Zqx,ZpL,List.length_cons,show k+1+Q.length=k+(Q.length+1) by omega]
def ZCa (F:List Nat) (j:Nat):List Nat:=(List.range 19).map fun i=>if i∈tlO.take j then F.getD i 0 else 0
theorem ZBW {F:List Nat} {j:Nat} (hj:j<19):(ZCa F j).set (tlO.getD j 0) (F.getD (tlO.getD j 0) 0)=ZCa F (j+1):=by
 have ht:=ZEG j hj
 refine List.ext_getElem (by simp [ZCa]) fun i h1 h2=>?_
 have hi:i<19:=by simpa [ZCa] using h2
 rw [List.getElem_set]
 simp only [ZCa,List.getElem_map,List.getElem_range]
 have e:tlO.take (j+1)=tlO.take j++[tlO.getD j 0]:=ZiP (d:=0) hj
 rw [e]
 by_cases c:tlO.getD j 0=i
 ·subst c
  rw [if_pos rfl,if_pos (by simp)]
 ·rw [if_neg c]
  by_cases m:i∈tlO.take j
  ·rw [if_pos m,if_pos (List.mem_append_left _ m)]
  ·rw [if_neg m,if_neg (fun h=>by
    rcases List.mem_append.1 h with h | h
    ·exact m h
    ·exact c (List.mem_singleton.1 h).symm)]
theorem Zws {F:List Nat}:∀ {j:Nat},j≤19→ZpL ((tdO F).take j) 0 (List.replicate 19 0)=ZCa F j
 | 0,_=>by
  rw [List.take_zero,ZpL,ZCa]
  simp only [List.take_zero,List.not_mem_nil,if_false]
  rfl
 | j+1,h=>by
  have hl:(tdO F).length=19:=by rw [tdO,List.length_map];rfl
  have hv:(tdO F).getD j 0=F.getD (tlO.getD j 0) 0:=by
   have h19:tlO.length=19:=rfl
   simp only [tdO,List.getD,List.getElem?_map,List.getElem?_eq_getElem (show j<tlO.length by omega),Option.map_some,Option.getD_some]
  rw [ZiP (d:=0) (by omega),Zqx,Zws (by omega),hv,List.length_take,hl,Nat.min_eq_left (by omega),Nat.zero_add]
  exact ZBW (by omega)
theorem Zpe {l:List Nat} {q:Nat}:∀ {n i:Nat},ZpJ l q n≤i→i<n→l.getD i 0=0
 | 0,i,_,h=>by omega
 | n+1,i,h1,h2=>by
  rw [ZpJ] at h1
  split at h1
  ·rename_i c
   by_cases e:i=n
   ·rw [e];exact c.2
   ·exact Zpe h1 (by omega)
  ·omega
theorem ZGH:∀ i,i<19→∃ j,j<19∧tlO.getD j 0=i:=by decide
theorem ZGI {F:List Nat} (hF:F.length=19):ZCa F (Zc2 (tdO F) 4).length=F:=by
 have hl:(tdO F).length=19:=by rw [tdO,List.length_map];rfl
 have hc:(Zc2 (tdO F) 4).length=ZpJ (tdO F) 4 19:=by
  rw [Zc2,List.length_take,hl]
  exact Nat.min_eq_left Zo8
 rw [hc]
 refine List.ext_getElem (by simp [ZCa,hF]) fun i h1 h2=>?_
 simp only [ZCa,List.getElem_map,List.getElem_range]
 have g:F.getD i 0=F[i]:=by simp [List.getD,h2]
 split
 ·exact g
 ·rename_i m
  obtain ⟨j,hj,rfl⟩:=ZGH i (by omega)
  have hv:(tdO F).getD j 0=F.getD (tlO.getD j 0) 0:=by
   have h19:tlO.length=19:=rfl
   simp only [tdO,List.getD,List.getElem?_map,List.getElem?_eq_getElem (show j<tlO.length by omega),Option.map_some,Option.getD_some]
  have hz:=Zpe (l:=tdO F) (q:=4) (n:=19) (i:=j) (by
   rcases Nat.lt_or_ge j (ZpJ (tdO F) 4 19) with c | c
   ·exfalso
    refine m ?_
    rw [List.mem_iff_getElem]
    have h19:tlO.length=19:=rfl
    refine ⟨j,by rw [List.length_take];omega,?_⟩
    rw [List.getElem_take]
    simp [List.getD,show j<tlO.length by omega]
   ·exact c) hj
  rw [←g,←hv,hz]
theorem ZGJ {F:List Nat} (hF:F.length=19) (h7:∀ x∈F,x≤7) (hf:ZnQ F=true):Rds (Zyd (Zc2 (tdO F) 4).length) ((Zc2 (tdO F) 4).flatMap fun x=>Zbq x 3) F:=by
 have hl:(tdO F).length=19:=by rw [tdO,List.length_map];rfl
 have hc:(Zc2 (tdO F) 4).length≤19:=by have:=(ZcV (l:=tdO F) (q:=4) (by omega)).2;omega
 have hQ:∀ x∈Zc2 (tdO F) 4,x≤7:=ZeJ fun x hx=>by
  obtain ⟨y,hy,rfl⟩:=List.mem_map.1 hx
  rcases Nat.lt_or_ge y F.length with c | c
  ·have:F.getD y 0=F[y]:=by simp [List.getD,c]
   rw [this];exact h7 _ (List.getElem_mem _)
  ·have:F.getD y 0=0:=by simp [List.getD,c]
   omega
 have hfold:ZpL (Zc2 (tdO F) 4) 0 (List.replicate 19 0)=F:=by
  have e:Zc2 (tdO F) 4=(tdO F).take (Zc2 (tdO F) 4).length:=by
   rw [Zc2,List.length_take,hl,Nat.min_eq_left Zo8]
  rw [e,Zws hc]
  exact ZGI hF
 have h:=Zwr (k:=0) (l:=List.replicate 19 0) hQ
 rw [hfold] at h
 rw [Zyd]
 refine h.bnd0 ?_
 rw [if_pos hf]
 exact Rds.ret
theorem Zpf {l:List Nat} {q:Nat}:∃ n,l=Zc2 l q++List.replicate n 0:=by
 refine ⟨l.length-ZpJ l q l.length,?_⟩
 have e:l.drop (ZpJ l q l.length)=List.replicate (l.length-ZpJ l q l.length) 0:=by
  refine List.ext_getElem (by simp) fun i h1 h2=>?_
  rw [List.length_drop] at h1
  rw [List.getElem_drop,List.getElem_replicate]
  have:=Zpe (l:=l) (q:=q) (n:=l.length) (i:=ZpJ l q l.length+i) (by omega) (by omega)
  rw [←this]
  simp [List.getD,show ZpJ l q l.length+i<l.length by omega]
 conv=>lhs;rw [←List.take_append_drop (ZpJ l q l.length) l,e]
 rfl
theorem Zpg:∀ {n:Nat},ZaA (List.replicate n 0)=0
 | 0=>rfl
 | n+1=>by
  rw [List.replicate_succ']
  rw [Zjd,Zpg]
  rfl
theorem ZD8 {l:List Nat} {n k:Nat}:cn (l++List.replicate k 0) n=cn l n:=by
 unfold cn
 split
 ·rfl
 ·rename_i h
  rw [List.count_append,List.count_eq_zero_of_not_mem (a:=n) (fun hm=>h (List.mem_replicate.1 hm).2),Nat.add_zero]
theorem Zwt {l:List Nat} {k:Nat}:∀ {n:Nat},fr (l++List.replicate k 0) n=fr l n
 | 0=>rfl
 | n+1=>by rw [fr,fr,Zwt,ZD8]
theorem ZrA {l:List Nat} {k i:Nat} (h:i<l.length):(l++List.replicate k 0).getD i 0=l.getD i 0:=by simp [List.getD,List.getElem?_append,h]
theorem ZD9 {l:List Nat} {k i:Nat} (h:l.length≤i):(l++List.replicate k 0).getD i 0=0:=by
 rcases Nat.lt_or_ge i (l.length+k) with c | c
 ·simp only [List.getD]
  rw [List.getElem?_append_right h,List.getElem?_replicate,if_pos (by omega)];rfl
 ·simp [List.getD,show l.length+k≤i from c]
theorem ZyA {l:List Nat} {k i:Nat} (h:i<l.length):Zbx (l++List.replicate k 0) i=Zbx l i:=by
 unfold Zbx
 rw [ZrA h,Zwt,List.take_append_of_le_length (by omega)]
theorem ZlY {l:List Nat} {q:Nat} {s:Nat × Nat × Nat} (h:l.getD s.1 0≠0):ZjJ (Zc2 l q) s=ZjJ l s∧(Zc2 l q).getD s.1 0≠0:=by
 obtain ⟨n,hn⟩:=Zpf (l:=l) (q:=q)
 obtain ⟨c,hc⟩:∃ c,c=Zc2 l q:=⟨_,rfl⟩
 rw [←hc] at hn ⊢
 subst hn
 have hs:s.1<c.length:=by
  rcases Nat.lt_or_ge s.1 c.length with k | k
  ·exact k
  ·exact absurd (ZD9 k) h
 rw [ZrA hs] at h
 refine ⟨?_,h⟩
 have e1:(ZbM (c++List.replicate n 0)).getD s.1 0=(ZbM c).getD s.1 0:=by
  have a:(ZbM (c++List.replicate n 0)).getD s.1 0=Zbx (c++List.replicate n 0) s.1:=by
   have:s.1<c.length+n:=by omega
   simp [ZbM,List.getD,this]
  have b:(ZbM c).getD s.1 0=Zbx c s.1:=by simp [ZbM,List.getD,hs]
  rw [a,b,ZyA hs]
 rw [ZjJ,ZjJ,ZrA hs,e1]
theorem ZBX {l d:List Nat} {q r:Nat} {p:Nat × Nat} (h:cdP l d p):pcB (Zc2 l q) (Zc2 d r) p=pcB l d p∧cdP (Zc2 l q) (Zc2 d r) p:=by
 have h1:=ZlY (q:=q) (s:=Zig p) h.1
 by_cases c:0<p.2
 ·have h2:=ZlY (q:=r) (s:=Znd p) (h.2 c)
  exact ⟨by rw [pcB,pcB,if_pos c,if_pos c,h1.1,h2.1],h1.2,fun _=>h2.2⟩
 ·exact ⟨by rw [pcB,pcB,if_neg c,if_neg c,h1.1],h1.2,fun k=>absurd k c⟩
theorem Zwu {l d:List Nat} {q r:Nat} (he:l.getD 256 0≠0):∀ {P:List (Nat × Nat)},(∀ p∈P,cdP l d p)→Zne (Zc2 l q) (Zc2 d r) P=Zne l d P
 | [],_=>by rw [Zne,Zne,(ZlY (q:=q) (s:=(256,0,0)) he).1];rfl
 | p::P,h=>by
  have e:∀ a b,Zne a b (p::P)=pcB a b p++Zne a b P:=fun a b=>by simp [Zne,List.append_assoc]
  rw [e,e,(ZBX (h p (by simp))).1,Zwu he fun x hx=>h x (by simp [hx])]
theorem ZlZ {l:List Nat} {q:Nat}:ZaA (Zc2 l q)=ZaA l:=by
 obtain ⟨n,hn⟩:=Zpf (l:=l) (q:=q)
 conv=>rhs;rw [hn]
 rw [Zjd,Zpg,Nat.add_zero]
theorem ZGK {l:List Nat} {q:Nat}:(Zc2 l q).sum=l.sum:=by
 obtain ⟨n,hn⟩:=Zpf (l:=l) (q:=q)
 conv=>rhs;rw [hn]
 rw [List.sum_append]
 simp
theorem Zwv {l:List Nat} {q:Nat} (h:LnOk l):LnOk (Zc2 l q):=⟨ZeJ h.small,by
 have:(Zc2 l q).length≤l.length:=by rw [Zc2,List.length_take];omega
 have:=h.len
 omega,by rw [ZlZ];exact h.kr⟩
theorem ZGL {x:Nat} (h:x≠16) {l:List Nat}:lsV x l=lsV x []:=by rw [lsV,lsV,if_neg h,if_neg h]
theorem Ztk {S:List Nat} (h15:∀ x∈S,x≤15) {x:Nat} (hx:x≠16):∀ {f a:Nat},S.length≤a+f→(∀ s∈Zl3 S f a [],s.1=x)→∀ i,a≤i→i<S.length→S.getD i 0=lsV x []
 | 0,a,h,_,i,h1,h2=>by omega
 | f+1,a,h,hs,i,h1,h2=>by
  have c:a<S.length:=by omega
  obtain ⟨d1,d2,d3,d4,d5⟩:=Zu8 h15 c
  obtain ⟨o1,o2,o3⟩:=Zwe h15 c
  have e:Zl3 S (f+1) a []=(tlA S a).1::Zl3 S f (a+(tlA S a).2) []:=by
   rw [Zl3,if_pos c,ZlX,List.nil_append];rfl
  rw [e] at hs
  by_cases k:i<a+(tlA S a).2
  ·have hx1:=hs _ (by simp:(tlA S a).1∈(tlA S a).1::Zl3 S f (a+(tlA S a).2) [])
   rw [hx1,ZGL hx] at d5
   have g:(S.take (a+(tlA S a).2)).getD i 0=S.getD i 0:=by
    simp only [List.getD,List.getElem?_take]
    rw [if_pos k]
   rw [←g,d5]
   have hl:(S.take a).length=a:=by rw [List.length_take];omega
   simp only [List.getD]
   rw [List.getElem?_append_right (by omega),List.getElem?_replicate,if_pos (by omega)]
   rfl
  ·exact Ztk h15 hx (f:=f) (a:=a+(tlA S a).2) (by omega) (fun s h=>hs s (List.mem_cons_of_mem _ h)) i (by omega) h2
theorem Zqy {v:Nat}:∀ {l:List Nat},(∀ x∈l,x=v)→ZaA l=l.length*wt v
 | [],_=>by rw [List.length_nil,Nat.zero_mul];rfl
 | x::l,h=>by
  have e:ZaA (x::l)=wt x+ZaA l:=rfl
  rw [e,h x (by simp),Zqy fun y hy=>h y (by simp [hy]),List.length_cons,Nat.succ_mul,Nat.add_comm]
theorem ZEa:∀ n,n<287→257≤n→∀ v,v<16→n*wt v≠32768:=by decide +kernel
theorem ZrB {c:List Nat} (h:(sgB c).length<2) {i j:Nat} (hi:i∈usB c) (hj:j∈usB c):i=j:=by
 rw [sgB,List.length_map] at h
 obtain ⟨u,hu⟩:∃ u,u=usB c:=⟨_,rfl⟩
 rw [←hu] at h hi hj
 match u,h,hi,hj with
 | [],_,hi,_=>simp at hi
 | [y],_,hi,hj=>rw [List.mem_singleton.1 hi,List.mem_singleton.1 hj]
 | y::z::r,h,_,_ =>
  simp only [List.length_cons] at h
  omega
theorem Zu9 {T:List (Nat × Nat × Nat)} {s:Nat × Nat × Nat} (hs:s∈T) (h:s.1<19):s.1∈usB (ctT T):=by
 refine ZiF.2 ⟨by rw [ctT,Zbl];exact h,?_⟩
 rw [ctT,ZkT h]
 exact List.count_pos_iff.2 (List.mem_map_of_mem hs)
theorem Zva {l d:List Nat} (ol:LnOk l) (od:LnOk d) (l1:l.length=286) (hk:ZaA l=32768):2≤(sgB (ctT (tls (tdL l d)))).length:=by
 rcases Nat.lt_or_ge (sgB (ctT (tls (tdL l d)))).length 2 with h | h
 ·exfalso
  have h15:∀ x∈tdL l d,x≤15:=fun x hx=>(List.mem_append.1 hx).elim (ZeJ ol.small x) (ZeJ od.small x)
  have k1:=ZcV (l:=l) (q:=257) (by omega)
  have hS:257≤(tdL l d).length:=by rw [tdL,List.length_append];omega
  obtain ⟨o1,-⟩:=Zwf h15
  obtain ⟨S,hSe⟩:∃ S,S=tdL l d:=⟨_,rfl⟩
  rw [←hSe] at h h15 hS o1
  obtain ⟨f,hf⟩:∃ f,S.length=f+1:=⟨S.length-1,by omega⟩
  have hfirst:(tlA S 0).1∈tls S:=by
   rw [tls,hf,Zl3,if_pos (by omega),ZlX,List.nil_append]
   simp
  have hx:(tlA S 0).1.1≠16:=fun e=>by
   have:=(Zu8 h15 (a:=0) (by omega)).2.2.2.1 e
   omega
  have hall:∀ s∈tls S,s.1=(tlA S 0).1.1:=fun s hs=>ZrB h (Zu9 hs (o1 s hs).num) (Zu9 hfirst (o1 _ hfirst).num)
  have hv:=Ztk h15 hx (f:=S.length) (a:=0) (by omega) hall
  obtain ⟨v,hve⟩:∃ v,v=lsV (tlA S 0).1.1 []:=⟨_,rfl⟩
  rw [←hve] at hv
  have hL:∀ x∈Zc2 l 257,x=v:=fun x hx=>by
   have hm:x∈S:=by rw [hSe,tdL];exact List.mem_append_left _ hx
   obtain ⟨i,hi,rfl⟩:=List.getElem_of_mem hm
   rw [←hv i (Nat.zero_le _) hi]
   simp [List.getD,hi]
  have hv16:v<16:=by
   have:=h15 (S.getD 0 0) (by
    have:S.getD 0 0=S[0]'(by omega):=by simp [List.getD,show 0<S.length by omega]
    rw [this];exact List.getElem_mem _)
   rw [hv 0 (Nat.le_refl _) (by omega)] at this
   omega
  have hkr:=Zqy hL
  rw [ZlZ,hk] at hkr
  exact ZEa (Zc2 l 257).length (by omega) k1.1 v hv16 hkr.symm
 ·exact h
theorem ZEb {l d:List Nat} (ol:LnOk l) (od:LnOk d) (l1:l.length=286) (d1:d.length=30) (hk:ZaA l=32768):ZnQ (tdF l d)=true∧(tdF l d).length=19∧(∀ x∈tdF l d,x≤7)∧∀ s∈tls (tdL l d),(tdF l d).getD s.1 0≠0:=by
 have h15:∀ x∈tdL l d,x≤15:=fun x hx=>(List.mem_append.1 hx).elim (ZeJ ol.small x) (ZeJ od.small x)
 obtain ⟨o1,o2⟩:=Zwf h15
 have h2:=Zva ol od l1 (d:=d) hk
 have k1:=(ZcV (l:=l) (q:=257) (by omega)).2
 have k2:=(ZcV (l:=d) (q:=1) (by omega)).2
 have kl:(tdL l d).length≤320:=by rw [tdL,List.length_append];omega
 have hok:=Zwg (T:=tls (tdL l d)) (by omega)
 have hr:(sgB (ctT (tls (tdL l d)))).length≤2^7:=Nat.le_trans ZBf hok.room
 have hlen:(tdF l d).length=19:=by rw [tdF,Zcn,ctT,Zbl]
 have hcl:(ctT (tls (tdL l d))).length=19:=by rw [ctT,Zbl]
 refine ⟨?_,hlen,fun x hx=>?_,fun s hs=>?_⟩
 ·rw [ZnQ]
  exact decide_eq_true ⟨by omega,ZlP (by omega) (by omega) h2 hr⟩
 ·obtain ⟨i,hi,rfl⟩:=List.getElem_of_mem hx
  have:=(ZlO (by omega) hr (s:=i) (by omega)).1
  rw [←tdF] at this
  simpa [List.getD,hi] using this
 ·have hn:=(o1 s hs).num
  have h1:=(ZlO (by omega) hr (s:=s.1) (by omega)).2
  have h3:=(ZiF.1 (Zu9 hs hn)).2
  have:=h1.2 h3
  rw [←tdF] at this
  omega
theorem ZEc {X:List Nat}:Rds (ZkX X.length) X (Zg1 X):=fun B R i hi hd=>by
 have hl:=congrArg List.length hd
 rw [List.length_drop,List.length_append] at hl
 rw [ZnP hi,if_pos (by omega),hd,List.take_left]
theorem ZIp {u v w:Nat} (hu:u<32) (hv:v<32) (hw:w<16):Rds (ZkX 14) (Zbq u 5++(Zbq v 5++Zbq w 4)) (u+32*(v+32*w)):=by
 have h:=ZEc (X:=Zbq u 5++(Zbq v 5++Zbq w 4))
 rw [ZeF,ZeF,ZjK,ZjK,ZjK,Zap,Zap] at h
 simp only [List.length_append,Zap] at h
 rw [Nat.mod_eq_of_lt (show u<2^5 from hu),Nat.mod_eq_of_lt (show v<2^5 from hv),Nat.mod_eq_of_lt (show w<2^4 from hw)] at h
 exact h
theorem ZGM {l d:List Nat} (ol:LnOk l) (od:LnOk d) (l1:l.length=286) (d1:d.length=30) (hk:ZaA l=32768) (he:l.getD 256 0≠0) (hd:d.sum≤1∨ZaA d=32768):Rds Zye (ZlW l d) (Zc2 l 257,Zc2 d 1):=by
 obtain ⟨f1,f2,f3,f4⟩:=ZEb ol od l1 d1 hk
 have oF:LnOk (tdF l d):=⟨fun x hx=>by have:=f3 x hx;omega,by omega,by
  have:=f1
  rw [ZnQ,decide_eq_true_eq] at this
  omega⟩
 have k1:=ZcV (l:=l) (q:=257) (by omega)
 have k2:=ZcV (l:=d) (q:=1) (by omega)
 have lV:(tdO (tdF l d)).length=19:=by rw [tdO,List.length_map];rfl
 have k3:=ZcV (l:=tdO (tdF l d)) (q:=4) (by omega)
 have h15:∀ x∈tdL l d,x≤15:=fun x hx=>(List.mem_append.1 hx).elim (ZeJ ol.small x) (ZeJ od.small x)
 have hS:(tdL l d).length=(Zc2 l 257).length+(Zc2 d 1).length:=by rw [tdL,List.length_append]
 have ht:=ZBV oF h15 (f:=(tdL l d).length) (a:=0) (g:=400) (Nat.zero_le _) (by omega) (by omega) f4
 rw [List.take_zero] at ht
 have hr:=ZGJ f2 f3 f1
 have e:ZlW l d=(Zbq ((Zc2 l 257).length-257) 5++(Zbq ((Zc2 d 1).length-1) 5++Zbq ((Zc2 (tdO (tdF l d)) 4).length-4) 4))++((Zc2 (tdO (tdF l d)) 4).flatMap (fun x=>Zbq x 3)++(tls (tdL l d)).flatMap (ZjJ (tdF l d))):=by
  rw [ZlW];simp only [List.append_assoc]
 obtain ⟨u,hu⟩:∃ u,u=(Zc2 l 257).length-257:=⟨_,rfl⟩
 obtain ⟨v,hv⟩:∃ u,u=(Zc2 d 1).length-1:=⟨_,rfl⟩
 obtain ⟨w,hw⟩:∃ u,u=(Zc2 (tdO (tdF l d)) 4).length-4:=⟨_,rfl⟩
 rw [e,←hu,←hv,←hw,Zye]
 refine (ZIp (u:=u) (v:=v) (w:=w) (by omega) (by omega) (by omega)).bnd ?_
 have a1:(u+32*(v+32*w)) % 32+257=(Zc2 l 257).length:=by omega
 have a2:(u+32*(v+32*w)) / 32 % 32+1=(Zc2 d 1).length:=by omega
 have a3:(u+32*(v+32*w)) / 1024+4=(Zc2 (tdO (tdF l d)) 4).length:=by omega
 rw [a1,a2,a3,if_neg (by omega),←hS]
 refine hr.bnd ?_
 refine Rds.bnd0 (a:=tdL l d) ht ?_
 have t1:(tdL l d).take (Zc2 l 257).length=Zc2 l 257:=by rw [tdL,List.take_left]
 have t2:(tdL l d).drop (Zc2 l 257).length=Zc2 d 1:=by rw [tdL,List.drop_left]
 rw [t1,t2,if_pos]
 ·exact Rds.ret
 ·have h1:=(ZlY (q:=257) (s:=(256,0,0)) he).2
  rw [ZB8,ZnQ,ZEv,ZnQ,ZlZ,ZlZ,ZGK]
  simp only [Bool.and_eq_true,Bool.or_eq_true,decide_eq_true_eq]
  refine ⟨⟨h1,by omega,hk⟩,?_⟩
  rcases hd with h | h
  ·exact .inl h
  ·exact .inr ⟨by omega,h⟩
theorem Ztl {F:Nat→Nat}:∀ {l:List Nat},(∀ s∈l,F s≤1)→(l.map F).sum≤l.length
 | [],_=>Nat.le_refl _
 | x::l,h=>by
  have h1:=h x (by simp)
  have:=Ztl (F:=F) (l:=l) fun s hs=>h s (by simp [hs])
  rw [List.map_cons,List.sum_cons,List.length_cons];omega
theorem ZEd {c:List Nat} {q:Nat} (hok:CtOk c q):(ZcU c q).sum≤1∨ZaA (ZcU c q)=32768:=by
 have hr:(sgB c).length≤2^q:=Nat.le_trans ZBf hok.room
 by_cases h:2≤(sgB c).length
 ·exact .inr (ZlP hok.pos hok.most h hr)
 ·left
  have h1:∀ s∈usB c,Zie s (ZhH c q)≤1:=fun s hs=>by
   have hs:=(ZiF.1 hs).1
   have:=ZDX (most:=q) (show (sgB c).length<2 by omega) hs
   rwa [ZBe hs] at this
  have:=Ztl h1
  rw [ZcU,ZjF (p:=fun s=>decide (0<c.getD s 0)) fun s hs=>by
   rw [ZhH,if_pos (by omega),sgB,ZkP,List.count_eq_zero_of_not_mem (fun k=>by simp only [decide_eq_false_iff_not] at hs;exact hs (ZiF.1 k).2)]]
  rw [show (List.range c.length).filter (fun s=>decide (0<c.getD s 0))=usB c from rfl]
  have hl:(usB c).length=(sgB c).length:=by rw [sgB,List.length_map]
  omega
theorem Zph {n:Nat} {S:List Nat} {i:Nat} (hi:i<n) (h:i∈S):i∈usB (ctN n S):=by
 refine ZiF.2 ⟨by rw [Zbl];exact hi,?_⟩
 rw [ZkT hi]
 exact List.count_pos_iff.2 h
theorem Zpi {c:List Nat} {q:Nat} (hok:CtOk c q) {i:Nat} (h:i∈usB c):(ZcU c q).getD i 0≠0:=by
 have hr:(sgB c).length≤2^q:=Nat.le_trans ZBf hok.room
 obtain ⟨h1,h2⟩:=ZiF.1 h
 have:=(ZlO hok.pos hr h1).2.2 h2
 omega
theorem ZBY {c:List Nat} {q:Nat} (hok:CtOk c q) (h:2≤(sgB c).length):ZaA (ZcU c q)=32768:=ZlP hok.pos hok.most h (Nat.le_trans ZBf hok.room)
theorem Zpj {P:List (Nat × Nat)}:256∈usB (ZkU P):=Zph (by omega) (by simp)
theorem ZBZ {P:List (Nat × Nat)} (hok:∀ p∈P,ZkQ p):2≤(sgB (ZkU P)).length:=by
 rcases Nat.lt_or_ge (sgB (ZkU P)).length 2 with h | h
 ·exfalso
  cases P with
  | nil =>
   have h0:0∈usB (ZkU []):=Zph (by omega) (by simp)
   have:=ZrB h h0 Zpj
   omega
  | cons p P =>
   have hp:=hok p (by simp)
   have hn:=(Zo6 (l:=List.replicate 286 0) (by rw [List.length_replicate];exact Nat.le_refl _) hp).num
   rw [List.length_replicate] at hn
   have h0:(Zig p).1∈usB (ZkU (p::P)):=Zph hn (List.mem_append_left _ (List.mem_append_left _ (List.mem_map_of_mem (f:=fun p=>(Zig p).1) (List.mem_cons_self ..))))
   have:=ZrB h h0 Zpj
   by_cases c:p.2=0
   ·have e:(Zig p).1=p.1:=by rw [Zig,if_pos c]
    have:=hp
    simp only [ZkQ] at this
    omega
   ·have:=Zwl hp (by omega)
    omega
 ·exact h
theorem ZIK {P:List (Nat × Nat)} (hP:P.length≤20000) (hok:∀ p∈P,ZkQ p):∀ p∈P,cdP (bsL P) (bsD P) p:=fun p hp=>by
 have ho:=hok p hp
 have hn:=(Zo6 (l:=List.replicate 286 0) (by rw [List.length_replicate];exact Nat.le_refl _) ho).num
 rw [List.length_replicate] at hn
 refine ⟨Zpi (ZlV hP) (Zph hn ?_),fun h0=>?_⟩
 ·refine List.mem_append_left _ (List.mem_append_left _ ?_)
  exact List.mem_map_of_mem (f:=fun p=>(Zig p).1) hp
 ·have hd:=(Zte (d:=List.replicate 30 0) (by rw [List.length_replicate];exact Nat.le_refl _) ho h0).num
  rw [List.length_replicate] at hd
  refine Zpi (ZnW hP) (Zph hd ?_)
  exact List.mem_map_of_mem (f:=fun p=>(Znd p).1) (List.mem_filter.2 ⟨hp,by simpa using h0⟩)
theorem ZIq {b:List UInt8} (hb:b.length≤20000) {F:Nat} (hF:(ZjH b).length<F) {most:Nat} (hm:b.length≤most) {R:List UInt8}:ZyG F (ZD5 b++R) most=(b,(ZD5 b).length,0):=by
 have hP:=Zih hb
 have hok:=Zge hb
 have hte:=ZmN (b:=b)
 have hfit:=Zrz hm hte.2
 rw [ZD5,Zyx]
 obtain ⟨P,hPe⟩:∃ P,P=ZjH b:=⟨_,rfl⟩
 rw [←hPe] at hP hok hte hfit hF ⊢
 obtain ⟨ol,od,l1,d1⟩:=ZnX hP
 have hk:ZaA (bsL P)=32768:=ZBY (ZlV hP) (ZBZ hok)
 have he:(bsL P).getD 256 0≠0:=Zpi (ZlV hP) Zpj
 have hcd:=ZIK hP hok
 have hfw:(bsD P).sum≤1∨ZaA (bsD P)=32768:=ZEd (ZnW hP)
 obtain ⟨t1,t2⟩:=ZjL ol od l1 d1
 obtain ⟨l,hl⟩:∃ l,l=bsL P:=⟨_,rfl⟩
 obtain ⟨d,hd⟩:∃ d,d=bsD P:=⟨_,rfl⟩
 rw [←hl,←hd] at hcd ⊢
 rw [←hl] at ol l1 hk he t2
 rw [←hd] at od d1 hfw t2
 obtain ⟨F,rfl⟩:∃ f,F=f+1:=⟨F-1,by omega⟩
 have h:=ZmM (Zwv (q:=257) ol) (Zwv (q:=1) od) (ZlY (q:=257) (s:=(256,0,0)) he).2 hF (fun p hp=>⟨hok p hp,(ZBX (hcd p hp)).2⟩) hfit
 rw [hte.1,Zwu he hcd] at h
 have hb2:Rds (ZuK most (F+1) [] 2) (ZlW l d++Zne l d P) b:=by
  rw [ZuK,if_neg (by omega),if_neg (by omega),if_pos rfl]
  exact (ZGM ol od l1 d1 hk he hfw).bnd h
 refine ZBU (fun x hx=>?_) (Zwn (how:=2) (by omega) hb2)
 rcases List.mem_append.1 hx with hx | hx
 ·rcases List.mem_append.1 hx with hx | hx <;> exact Ze3 x hx
 ·rcases List.mem_append.1 hx with hx | hx
  ·exact t2 x hx
  ·exact Zwp x hx
end Go.Proofs.YtbcncdpaigljeaaGreatDoor.Aw
