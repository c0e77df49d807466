/- Parts of the proof of GzipUnpacks. -/
import Derived.Test.YtfplkgciebjehabGreatDoorQGzipUnpacksBG
namespace Go.Proofs.YtfplkgciebjehabGreatDoor.Aw
open Go
set_option linter.defProp false
set_option maxRecDepth 100000
set_option linter.unusedSimpArgs false
set_option linter.unusedVariables false
def u64 (n:Nat):AV:=.sc (.int .u64 (n:Int))
theorem ZpT [Tabs Tryz.prog] (k:Nat) (hk:k<1000000):Con Tryz.prog Zlj [.sc (.int .u64 1),.sc (.int .u64 (k:Int))] (.tup [.sc (.int .u64 0),.sc (.int .u64 (k:Int))]):=by
 refine Con.of' mix Tryz.func142 rfl Tryz.ntmps142 ZpD ZpE zB rfl rfl ?_
 unfold Zln
 have h1:k&&&4294967295=k:=by
  have:=Nat.and_two_pow_sub_one_eq_mod k 32
  simp only [Nat.reducePow,Nat.reduceSub] at this
  rw [this,Nat.mod_eq_of_lt zO]
 have h2:k / 4294967296=0:=Nat.div_eq_of_lt zO
 repeat (first|refine xR (ja5 @h1 @h2 @Zcv @Int.one_mul @Int.zero_mul) ?_|exact xU (ja5 @h1 @h2 @Zcv @Int.one_mul @Int.zero_mul))
theorem Zut [Tabs Tryz.prog] (k:Nat) (hk:k<1000000):Con Tryz.prog Znz [.sc (.int .u64 1),.sc (.int .u64 (k:Int))] (.tup [.sc (.int .u64 0),.sc (.int .u64 (k:Int))]):=by
 refine Con.of' mix Tryz.func118 rfl Tryz.ntmps118 Zuj Zuk zB rfl rfl ?_
 unfold ZnB
 repeat (first|refine xS ?_|exact xT)
 refine Zaq _ (.inl ⟨rfl,ZpT k hk⟩) ?_
 repeat (first|refine xS ?_|exact xT)
def ZpU (x n k:Nat):List Nat:=List.replicate n x++List.replicate (k-n) 0
theorem ZjE {x n k:Nat} (h:n≤k):(ZpU x n k).length=k:=by simp [ZpU];omega
theorem ZyX {x k:Nat}:ZpU x k k=List.replicate k x:=by simp [ZpU]
theorem ZwL {x k:Nat}:ZpU x 0 k=List.replicate k 0:=by simp [ZpU]
theorem ZwM {x n k m:Nat} (h:m≤n):(ZpU x n k).take m=List.replicate m x:=by
 rw [ZpU,List.take_append_of_le_length (by simp;exact h),List.take_replicate,Nat.min_eq_left h]
theorem ZmH {x n m k:Nat} (h:n+m≤k):Zbl n ((List.replicate m x).map nA) ((ZpU x n k).map nA)=(ZpU x (n+m) k).map nA:=by
 unfold Zbl
 rw [←List.map_take,←List.map_drop,←List.map_append,←List.map_append]
 congr 1
 simp only [ZpU,List.length_map,List.length_replicate]
 rw [List.take_append_of_le_length zB,List.take_replicate,Nat.min_self,List.drop_append,List.drop_of_length_le zB,List.nil_append,List.length_replicate,List.drop_replicate,List.replicate_append_replicate]
 congr 2
 omega
theorem ZbM [Tabs Tryz.prog] (x k:Nat) (h0:0<k) (hk:k≤100000):Con Tryz.prog ZaK [.sl false none [.sc (.int .i64 (x:Int))],int (k:Int)] (.sl false none ((List.replicate k x).map nA)):=by
 refine Con.of' mix Tryz.func76 rfl Tryz.ntmps76 Zie Zif zB rfl (by simp only [AV.free,Zaj]) ?_
 unfold ZeA
 have d1:decide ((k:Int)<0)=false:=decide_eq_false zO
 have d2:decide ((9223372036854775807:Int)<(k:Int))=false:=decide_eq_false zO
 repeat (first|refine xR (ja3 @d1 @d2 @Zcv) ?_|exact xU (ja3 @d1 @d2 @Zcv))
 refine Zaq _ (.inl ⟨rfl,Zut k zO⟩) ?_
 have hz:(List.replicate k [AV.sc (.int .i64 0)]).flatten=(ZpU x 0 k).map nA:=by rw [Zzw,ZwL]
 have hl:=ZjE (x:=x) (n:=0) (k:=k) zO
 have hs:(List.replicate 1 x).map nA++List.drop 1 ((ZpU x 0 k).map nA)=(ZpU x 1 k).map nA:=by have:=ZmH (x:=x) (n:=0) (m:=1) (k:=k) zO;rwa [Zbl,List.take_zero,List.nil_append,List.length_map,List.length_replicate,Nat.zero_add] at this
 have h1:([AV.sc (.int .i64 (x:Int))]).take k=(List.replicate 1 x).map nA:=by
  obtain ⟨k,rfl⟩:∃ j,k=j+1:=⟨k-1,by omega⟩
  simp [nA]
 repeat (first|refine xR (ja8 @d1 @d2 @Zcv @hz @hl @h1 @List.length_replicate.{0} @hs) ?_|exact xU (ja8 @d1 @d2 @Zcv @hz @hl @h1 @List.length_replicate.{0} @hs))
 refine SWp.loop (α:=Nat) (fun n=>mk 48 1 [(7,.own 30 0 none 0 k),(8,int (n:Int))] [(30,0,.row false ((ZpU x n k).map nA))])
  (fun n=>1≤n∧n≤k) (fun n=>k-n) 1 ⟨by omega,by omega⟩ (Zal rfl ?_ ?_ ?_) ?_
 ·exact Nat.le_refl _
 iterate 2 (case _=>(first|exact vT|refine vS ?_))
 rintro n ⟨hn1,hn⟩ -
 have hl:=ZjE (x:=x) (n:=n) (k:=k) hn
 obtain ⟨m,hm⟩:∃ m,m=min n (k-n):=⟨_,rfl⟩
 have hmn:n+m≤k:=zO
 have hs:=ZmH (x:=x) (n:=n) (m:=m) (k:=k) hmn
 rw [Zbl,List.length_map,List.length_replicate,List.append_assoc,Zom,Zon] at hs
 obtain ⟨R,hR⟩:∃ R,R=ZpU x n k:=⟨_,rfl⟩
 obtain ⟨Y,hY⟩:∃ Y,Y=List.replicate m x:=⟨_,rfl⟩
 have hYl:Y.length=m:=by rw [hY,List.length_replicate]
 have ht:((ZpU x n k).take n).take (k-n)=List.replicate m x:=by
  rw [List.take_take,Nat.min_comm,←hm,ZwM zO]
 rw [←hR] at hs ht hl ⊢
 rw [←hY] at hs ht
 have hn3:min (R.take n).length (k-n)=m:=by rw [List.length_take,hl];omega
 repeat (first|refine xS ?_|exact xT)
 refine SWp.cond rfl (fun h=>?_) (fun h=>?_)
 ·simp only [decide_eq_true_eq] at h
  repeat (first|refine xR (ja6 @hl @Zom @Zon @ht @hYl hm.symm) ?_|exact xU (ja6 @hl @Zom @Zon @ht @hYl hm.symm))
  refine At.of (n+m) zO zO rfl rfl (Nat.le_refl _) ?_ ?_
  iterate 2 (case _=>(first|exact vU (ja3 @hn3 hm.symm @hs)|refine vR (ja3 @hn3 hm.symm @hs) ?_))
 ·simp only [decide_eq_false_iff_not] at h
  obtain rfl:n=k:=zO
  repeat (first|refine xR @Zaj ?_|exact xU @Zaj)
  rw [hR,List.take_of_length_le (by rw [List.length_map,ZjE (Nat.le_refl _)];exact Nat.le_refl _),ZyX]
theorem ZmI [Tabs Tryz.prog] (A B C D:List Nat) (hA:0<A.length) (hl:A.length≤1000∧B.length≤1000∧C.length≤1000∧D.length≤1000) :
  Con Tryz.prog Zet [.sl false none [.sl false none (A.map nA),.sl false none (B.map nA),.sl false none (C.map nA),.sl false none (D.map nA)]] (.sl false none ((A++(B++(C++D))).map nA)):=by
 refine Con.of' mix Tryz.func75 rfl Tryz.ntmps75 Zic Zid zB (by simp only [AV.free,AV.free.freeL,Zaj,Bool.and_self]) (by simp only [AV.free,Zaj]) ?_
 unfold Zez
 obtain ⟨n,hn⟩:∃ n,n=A.length+B.length+C.length+D.length:=⟨_,rfl⟩
 have hc:(A.length:Int)+(B.length:Int)+(C.length:Int)+(D.length:Int)=(n:Int):=zO
 have d1:decide ((A.length:Int)<0)=false:=decide_eq_false zO
 have d2:decide ((A.length:Int)+(B.length:Int)<0)=false:=decide_eq_false zO
 have d3:decide ((A.length:Int)+(B.length:Int)+(C.length:Int)<0)=false:=decide_eq_false zO
 have d4:decide ((n:Int)<0)=false:=decide_eq_false zO
 repeat (first|refine xR (ja5 @d1 @d2 @d3 @d4 @hc) ?_|exact xU (ja5 @d1 @d2 @d3 @d4 @hc))
 refine SWp.unroll ?_
 repeat (first|refine xR (ja5 @d1 @d2 @d3 @d4 @hc) ?_|exact xU (ja5 @d1 @d2 @d3 @d4 @hc))
 refine Zab [] 1000 (ZpS n zO zO) zB zB ?_ ?_ ?_
 iterate 2 (case _=>(first|exact vT|refine vS ?_))
 repeat (first|refine xS ?_|exact xT)
 refine SWp.unroll ?_
 repeat (first|refine xR (ja2 @List.length_append.{0} @Zaj) ?_|exact xU (ja2 @List.length_append.{0} @Zaj))
 exact List.take_of_length_le (by simp;omega)
theorem ZyY {l:List Nat}:l.map nA=(l.map Int.ofNat).map int:=by rw [List.map_map];rfl
theorem toNat_ofNat {l:List Nat}:(l.map Int.ofNat).map Int.toNat=l:=by
 rw [List.map_map]
 conv=>rhs;rw [←List.map_id l]
 exact List.map_congr_left fun _ _=>rfl
theorem ZDc {l:List Nat} (h15:∀ x∈l,x≤15) (hl:l.length≤320):chk (l.map Int.ofNat)=if 32768<Zas l then 3 else 0:=by
 unfold chk
 rw [toNat_ofNat,List.length_map,if_neg zO,if_neg]
 rw [Bool.not_eq_false,List.all_eq_true]
 intro x hx
 obtain ⟨y,hy,rfl⟩:=List.mem_map.1 hx
 have:=h15 y hy
 exact decide_eq_true (by show 0≤(y:Int)∧(y:Int)≤15;omega)
theorem Zc9 [Tabs Tryz.prog] (nl:Bool) (l:List Nat) (h15:∀ x∈l,x≤15) (hl:l.length≤320) (hK:Zas l≤32768):Con Tryz.prog ZbB [.sl nl none (l.map nA)] (.tup [.fp (.agg (trR l)) 0,int 0]):=by
 have h:=Zm2 nl (l.map Int.ofNat) (by rw [ZDc h15 hl,if_neg zO]) l toNat_ofNat.symm
 rw [←ZyY] at h
 exact h
theorem ZjF [Tabs Tryz.prog] (nl:Bool) (l:List Nat) (h15:∀ x∈l,x≤15) (hl:l.length≤1000):Con Tryz.prog Zfw [.sl nl none (l.map nA)] (boo (fulN l)):=by
 have h:=Zrr nl (l.map Int.ofNat) (by rw [List.length_map];exact hl)
 rw [←ZyY] at h
 have e:Zkj (l.map Int.ofNat)=fulN l:=by
  unfold Zkj fulN
  rw [toNat_ofNat]
  by_cases c:l.length≤320
  ·rw [ZDc h15 c]
   by_cases c2:Zas l=32768
   ·rw [if_neg zO,decide_eq_true c2,decide_eq_true (show l.length≤320∧Zas l=32768 from ⟨c,c2⟩)];rfl
   ·rw [decide_eq_false c2,Bool.and_false,decide_eq_false (fun h=>c2 h.2)]
  ·rw [decide_eq_false (fun h:l.length≤320∧_=>c h.1),decide_eq_false,Bool.false_and]
   unfold chk
   rw [List.length_map,if_pos zO]
   omega
 rw [e] at h
 exact h
theorem Zbk:(∀ x∈ZnH,x≤15)∧ZnH.length=288∧Zas ZnH=32768:=by decide +kernel
theorem Zbx:(∀ x∈Zoy,x≤15)∧Zoy.length=32∧Zas Zoy=32768:=by decide +kernel
def BH4:=ja2 fR iR
theorem ZlJ [Tabs Tryz.prog]:Con Tryz.prog ZeV [] (cds ZnH Zoy):=by
 refine Con.of' mix Tryz.func45 rfl Tryz.ntmps45 ZiM ZiN zB rfl Zkl ?_
 unfold ZeZ
 have p1:=ZbM 8 144 zO zO
 have p2:=ZbM 9 112 zO zO
 have p3:=ZbM 7 24 zO zO
 have p4:=ZbM 8 8 zO zO
 have p5:=ZbM 5 32 zO zO
 have pc:=ZmI (List.replicate 144 8) (List.replicate 112 9) (List.replicate 24 7) (List.replicate 8 8) zB zB
 have t1:=Zc9 false ZnH Zbk.1 (by rw [Zbk.2.1];omega) (by rw [Zbk.2.2];omega)
 have t2:=Zc9 false Zoy Zbx.1 (by rw [Zbx.2.1];omega) (by rw [Zbx.2.2];omega)
 have hL:List.replicate 144 8++(List.replicate 112 9++(List.replicate 24 7++List.replicate 8 8))=ZnH:=rfl
 have hD:List.replicate 32 5=Zoy:=rfl
 rw [hL] at pc
 rw [hD] at p5
 obtain ⟨A,hA⟩:∃ A,A=List.replicate 144 8:=⟨_,rfl⟩
 obtain ⟨B,hB⟩:∃ B,B=List.replicate 112 9:=⟨_,rfl⟩
 obtain ⟨C,hC⟩:∃ C,C=List.replicate 24 7:=⟨_,rfl⟩
 obtain ⟨D,hDd⟩:∃ D,D=List.replicate 8 8:=⟨_,rfl⟩
 rw [←hA] at p1 pc
 rw [←hB] at p2 pc
 rw [←hC] at p3 pc
 rw [←hDd] at p4 pc
 repeat (first|refine xR BH4 ?_|exact xU BH4)
 refine ZkK 6 0 (nl:=false) (cells:=[.sc (.int .i64 8)]) [.sl false none [.sc (.int .i64 ((8:Nat):Int))],int ((144:Nat):Int)] _ vT (vU @Zaj) ?_ (vU @Zaj) p1 ?_
 ·(first|exact vU BH4|refine vR BH4 ?_)
 repeat (first|refine xR BH4 ?_|exact xU BH4)
 refine ZkK 8 1 (nl:=false) (cells:=[.sc (.int .i64 9)]) [.sl false none [.sc (.int .i64 ((9:Nat):Int))],int ((112:Nat):Int)] _ vT (vU @Zaj) ?_ (vU @Zaj) p2 ?_
 ·(first|exact vU BH4|refine vR BH4 ?_)
 repeat (first|refine xR BH4 ?_|exact xU BH4)
 refine ZkK 10 2 (nl:=false) (cells:=[.sc (.int .i64 7)]) [.sl false none [.sc (.int .i64 ((7:Nat):Int))],int ((24:Nat):Int)] _ vT (vU @Zaj) ?_ (vU @Zaj) p3 ?_
 ·(first|exact vU BH4|refine vR BH4 ?_)
 repeat (first|refine xR BH4 ?_|exact xU BH4)
 refine ZkK 12 3 (nl:=false) (cells:=[.sc (.int .i64 8)]) [.sl false none [.sc (.int .i64 ((8:Nat):Int))],int ((8:Nat):Int)] _ vT (vU @Zaj) ?_ (vU @Zaj) p4 ?_
 ·(first|exact vU BH4|refine vR BH4 ?_)
 repeat (first|refine xR BH4 ?_|exact xU BH4)
 refine Zaq _ (.inl ⟨by simp only [AV.free,AV.free.freeL,Zaj,Bool.and_self],pc⟩) ?_
 repeat (first|refine xR BH4 ?_|exact xU BH4)
 refine Zaq _ (.inl ⟨by simp only [AV.free,AV.free.freeL,Zaj,Bool.and_self],t1⟩) ?_
 repeat (first|refine xR BH4 ?_|exact xU BH4)
 refine ZkK 20 4 (nl:=false) (cells:=[.sc (.int .i64 5)]) [.sl false none [.sc (.int .i64 ((5:Nat):Int))],int ((32:Nat):Int)] _ vT (vU @Zaj) ?_ (vU @Zaj) p5 ?_
 ·(first|exact vU BH4|refine vR BH4 ?_)
 repeat (first|refine xR BH4 ?_|exact xU BH4)
 refine Zaq _ (.inl ⟨by simp only [AV.free,AV.free.freeL,Zaj,Bool.and_self],t2⟩) ?_
 repeat (first|refine xR (ja2 @cds.eq_1 @ZbA) ?_|exact xU (ja2 @cds.eq_1 @ZbA))
theorem ZcF [Tabs Tryz.prog] (x n:Nat) (hn:n≤400000):HCon Tryz.prog ZaC [int (x:Int),int (n:Int)] [] (.own 5 (n+3) none 0 n) [(5,n+3,.row (nl0 n) ((List.replicate n x).map nA))] (n+4):=by
 refine HCon.of' mix Tryz.func28 rfl Tryz.ntmps28 ZiK ZiL zB (by simp [AV.gl,AV.gl.glL,int]) zB ?_
 unfold ZeY
 repeat (first|refine zS ?_|exact zT)
 refine SWp.adopt 5 none yT ?_
 refine SWp.loop (α:=Nat × Nat) (fun z=>mk 17 (2+z.1) [(0,int (x:Int)),(1,int (n:Int)),(5,.own 5 z.2 none 0 z.1),(6,int (z.1:Int))] [(5,z.2,.row (nl0 z.1) ((List.replicate z.1 x).map nA))])
  (fun z=>z.1≤n) (fun z=>n-z.1) (0,1) (Nat.zero_le _) (Zal rfl ?_ ?_ ?_) ?_
 ·exact Nat.le_refl _
 iterate 2 (case _=>(first|exact yU @Zay|refine yR @Zay ?_))
 rintro ⟨k,g⟩ hk -
 simp only at hk
 have hr:List.replicate (k+1) x=List.replicate k x++[x]:=List.replicate_succ'
 have hl:(List.replicate k x).length=k:=List.length_replicate
 obtain ⟨X,hX⟩:∃ X,X=List.replicate k x:=⟨_,rfl⟩
 rw [←hX] at hr hl ⊢
 repeat (first|refine zS ?_|exact zT)
 refine SWp.cond rfl (fun h=>?_) (fun h=>?_)
 ·simp only [decide_eq_true_eq] at h
  repeat (first|refine zR @hl ?_|exact zU @hl)
  refine At.of (k+1,2+k) (by simp only;omega) (by simp only;omega) rfl rfl ?_ ?_ ?_
  ·simp only;omega
  iterate 2 (case _=>(first|exact yU (ja3 @hr @Zaw @nA.eq_1)|refine yR (ja3 @hr @Zaw @nA.eq_1) ?_))
 ·simp only [decide_eq_false_iff_not] at h
  obtain rfl:k=n:=zO
  refine SWp.le (Zal (N:=17) (gc:=k+3) (l:=[(5,.own 5 g none 0 k)]) (h:=[(5,g,.row (nl0 k) (X.map nA))]) rfl ?_ ?_ ?_) ?_
  ·show 2+k≤k+3;omega
  iterate 2 (case _=>(first|exact yT|refine yS ?_))
  refine SWp.renew 5 g (o:=.row (nl0 k) (X.map nA)) yT ?_
  refine SWp.le (Zal (N:=17) (gc:=k+4) (l:=[(5,.own 5 (k+3) none 0 k)]) (h:=[(5,k+3,.row (nl0 k) (X.map nA))]) rfl ?_ ?_ ?_) ?_
  ·exact Nat.le_refl _
  iterate 2 (case _=>(first|exact yU (ja3 @ZbN @ZbO iR)|refine yR (ja3 @ZbN @ZbO iR) ?_))
  repeat (first|refine zR hX.symm ?_|exact zU hX.symm)
theorem ZrF [Tabs Tryz.prog] (nl:Bool) (l:List Nat) (h15:∀ x∈l,x≤15) (hl:l.length≤320) (hK:Zas l≤32768):Con Tryz.prog ZcU [.sl nl none (l.map nA)] (.tup [.sl l.isEmpty none ((Zf1 l).map nA),int 0]):=by
 have h:=Zru nl (l.map Int.ofNat) (by rw [ZDc h15 hl,if_neg zO]) l toNat_ofNat.symm
 rw [←ZyY] at h
 exact h
theorem Zk3 [Tabs Tryz.prog] (nl:Bool) (l:List Nat) (h15:∀ x∈l,x≤15) (hl:l.length≤1000):Con Tryz.prog Zbp [.sl nl none (l.map nA)] (boo (fulN l)):=by
 have h:=Zup nl (l.map Int.ofNat) (by rw [List.length_map];exact hl)
 rw [←ZyY] at h
 have e:Zkj (l.map Int.ofNat)=fulN l:=by
  unfold Zkj fulN
  rw [toNat_ofNat]
  by_cases c:l.length≤320
  ·rw [ZDc h15 c]
   by_cases c2:Zas l=32768
   ·rw [if_neg zO,decide_eq_true c2,decide_eq_true (show l.length≤320∧Zas l=32768 from ⟨c,c2⟩)];rfl
   ·rw [decide_eq_false c2,Bool.and_false,decide_eq_false (fun h=>c2 h.2)]
  ·rw [decide_eq_false (fun h:l.length≤320∧_=>c h.1),decide_eq_false,Bool.false_and]
   unfold chk
   rw [List.length_map,if_pos zO]
   omega
 rw [e] at h
 exact h
def BH11:=ja2 @cdG.eq_1 iR
theorem Zio [Tabs Tryz.prog] (nl:Bool) (l:List Nat) (h15:∀ x∈l,x≤15) (hl:l.length≤320) (hK:Zas l≤32768):Con Tryz.prog Za4 [.sl nl none (l.map nA)] (cdG nl l.isEmpty l):=by
 refine Con.of' mix Tryz.func27 rfl Tryz.ntmps27 Zji Zjj zB (by simp only [AV.free,AV.free.freeL,Zaj,Bool.and_self]) Zkn ?_
 unfold ZfH
 have hC:=ZrF nl l h15 hl hK
 repeat (first|refine zS ?_|exact zT)
 refine Zaq _ (.inl ⟨by simp only [AV.free,AV.free.freeL,Zaj,Bool.and_self],hC⟩) ?_
 repeat (first|refine zR BH11 ?_|exact zU BH11)
theorem Zuu [Tabs Tryz.prog]:Con Tryz.prog ZeU [] (cdG false false ZnH):=by
 refine Con.of' mix Tryz.func26 rfl Tryz.ntmps26 ZiI ZiJ zB rfl Zkn ?_
 unfold ZeX
 have p1:=ZcF 8 144 zO
 have p2:=ZcF 9 112 zO
 have p3:=ZcF 7 24 zO
 have p4:=ZcF 8 8 zO
 have pm:=Zio false ZnH Zbk.1 (by rw [Zbk.2.1];omega) (by rw [Zbk.2.2];omega)
 have hL:List.replicate 144 8++(List.replicate 112 9++(List.replicate 24 7++List.replicate 8 8))=ZnH:=rfl
 have hem:ZnH.isEmpty=false:=rfl
 rw [hem] at pm
 obtain ⟨A,hA⟩:∃ A,A=List.replicate 144 8:=⟨_,rfl⟩
 obtain ⟨B,hB⟩:∃ B,B=List.replicate 112 9:=⟨_,rfl⟩
 obtain ⟨C,hC⟩:∃ C,C=List.replicate 24 7:=⟨_,rfl⟩
 obtain ⟨D,hD⟩:∃ D,D=List.replicate 8 8:=⟨_,rfl⟩
 have lA:A.length=144:=by rw [hA];rfl
 have lB:B.length=112:=by rw [hB];rfl
 have lC:C.length=24:=by rw [hC];rfl
 have lD:D.length=8:=by rw [hD];rfl
 rw [←hA] at p1 hL
 rw [←hB] at p2 hL
 rw [←hC] at p3 hL
 rw [←hD] at p4 hL
 have hAB:A.map nA++B.map nA=(A++B).map nA:=by rw [List.map_append]
 repeat (first|refine zS ?_|exact zT)
 refine Zab [] 1000 p1 zB zB ?_ ?_ ?_
 iterate 2 (case _=>(first|exact yT|refine yS ?_))
 repeat (first|refine zR (ja2 @lA @Zaw) ?_|exact zU (ja2 @lA @Zaw))
 refine Zab [] 2000 p2 zB zB ?_ ?_ ?_
 iterate 2 (case _=>(first|exact yT|refine yS ?_))
 repeat (first|refine zR (ja3 @lA @lB iR) ?_|exact zU (ja3 @lA @lB iR))
 refine Zab [] 3000 p3 zB zB ?_ ?_ ?_
 iterate 2 (case _=>(first|exact yT|refine yS ?_))
 repeat (first|refine zR (ja4 @lA @lB @lC iR) ?_|exact zU (ja4 @lA @lB @lC iR))
 refine Zab [] 4000 p4 zB zB ?_ ?_ ?_
 iterate 2 (case _=>(first|exact yT|refine yS ?_))
 repeat (first|refine zR (ja5 @lA @lB @lC @lD iR) ?_|exact zU (ja5 @lA @lB @lC @lD iR))
 have hcat:A.map nA++(B.map nA++(C.map nA++D.map nA))=ZnH.map nA:=by rw [←hL];simp only [List.map_append]
 have hfr:AV.free.freeL (A.map nA++(B.map nA++(C.map nA++D.map nA)))=true:=by rw [hcat];exact Zaj
 have htk:(ZnH.map nA).take 288=ZnH.map nA:=List.take_of_length_le (by rw [List.length_map,Zbk.2.1];exact Nat.le_refl _)
 have hfl:ZnH.length=288:=Zbk.2.1
 refine ZkK 1005 307 (nl:=false) (cells:=A.map nA++(B.map nA++(C.map nA++D.map nA))) [.sl false none (ZnH.map nA)] _ yT hfr ?_ (yU @Zaj) pm ?_
 ·rw [hcat]
  (first|exact yU (ja3 fR @htk @hfl)|refine yR (ja3 fR @htk @hfl) ?_)
 repeat (first|refine zR BH11 ?_|exact zU BH11)
def ZbV {α:Type}:BR α→AV
 | .ok _ _=>int 0
 | .no e=>int (e:Int)
def ZbW (K:Nat) (t:Bool) (most:Nat) (nl:Bool) (b:List UInt8):BR (List UInt8)→List (Nat × Nat × AO)
 | .ok o j=>unO K t most nl b j o
 | .no _=>[]
def BH1:=ja2 @rdR.eq_1 @Zac
def BH2:=ja4 @unI.eq_1 @unR.eq_1 @rdR.eq_1 @Zaa
def BH6:=ja2 @unR.eq_1 @rdR.eq_1
def BH8:=ja2 @cds.eq_1 @unR.eq_1
def BH12:=ja4 @ZbV.eq_1 @ZbV.eq_2 @ZbW.eq_1 @ZbW.eq_2
def BH18:=ja4 @unO.eq_1 @unR.eq_1 @rdR.eq_1 @Zaa
def BH19:=ja5 @unI.eq_1 @unR.eq_1 @rdR.eq_1 @Zaa @Zac
def BH21:=ja4 @cds.eq_1 @unR.eq_1 @rdR.eq_1 @Zaw
def BH22:=ja5 @ZbN @ZbO @unR.eq_1 @rdR.eq_1 @Zaa
def BH23:=ja7 @ZbV.eq_1 @ZbV.eq_2 @ZbW.eq_1 @ZbW.eq_2 @unO.eq_1 @unR.eq_1 @rdR.eq_1
set_option maxHeartbeats 1000000 in
theorem Zko [Tabs Tryz.prog] (t:Bool) (most:Nat) (hm:most≤16777216) (nl:Bool) (b:List UInt8) (hb:b.length≤1000000) (i:Nat) (hi:i≤8*b.length) (out:List UInt8) (ho:out.length≤most)
  (l d:List Nat) (hl:l.length≤320) (hKl:Zas l≤32768) (hd:d.length≤320) (hK:Zas d≤32768) (F:Nat) (hF:8*b.length-i<F) (r:BR (List UInt8)) (hr:(ZnG l d most F out).run (Zae b) i=r) :
  HCon Tryz.prog Zbu [.op 1000 0 0,cds l d] (unI t most nl b i out) (ZbV r) (ZbW (1000*F+1) t most nl b r) (1000*F+2):=by
 refine HCon.of' mix Tryz.func46 rfl Tryz.ntmps46 Zf7 Zf8 zB (by simp only [AV.gl.glL,AV.gl,and_true];exact ⟨by omega,Zbw 1 _ Zkl⟩) Zem ?_
 unfold ZcL
 repeat (first|refine zS ?_|exact zT)
 refine SWp.loop (α:=Nat × List UInt8 × Nat × Nat × Nat) (fun x=>mk 45 x.2.2.2.2 [(0,.op 1000 0 0),(1,cds l d)] [(1000,0,.row false (unR t most x.2.2.2.1 x.2.1.length)),(1001,0,.row false (rdR nl b x.2.2.1)),(1002,x.2.2.2.1,.row (nl0 x.2.1.length) (x.2.1.map u8))])
  (fun x=>(ZnG l d most x.1 x.2.1).run (Zae b) x.2.2.1=r∧x.2.2.1≤8*b.length∧8*b.length-x.2.2.1<x.1∧x.2.1.length≤most∧x.2.2.2.2+1000*x.1≤1000*F+1) (fun x=>x.1) (F,out,i,0,1) ⟨hr,hi,hF,ho,by simp only;omega⟩ (Zal rfl ?_ ?_ ?_) ?_
 ·exact Nat.le_refl _
 iterate 2 (case _=>(first|exact yU @unI.eq_1|refine yR @unI.eq_1 ?_))
 rintro ⟨f,o,p,g,c⟩ ⟨hx,hp,hf,hom,hc⟩ -
 simp only at hx hp hf hom hc
 obtain ⟨f,rfl⟩:∃ f',f=f'+1:=⟨f-1,by omega⟩
 rw [ZnG,Zak,ZmD] at hx
 have hfc:=Zha (l:=l) (B:=(Zae b).drop p) 15 0 0 (Nat.zero_le _)
 have hsy:=Zin (l:=l) (B:=(Zae b).drop p) 15 0 0
 have hN:=ZjC l hl hKl nl b hb p hp _ rfl
 rw [List.length_drop,Zad] at hfc
 obtain ⟨⟨sy,m,e⟩,hr2⟩:∃ r,r=nxt l ((Zae b).drop p) 15 0 0:=⟨_,rfl⟩
 rw [←hr2] at hfc hsy hN hx
 simp only at hfc hsy hN
 clear hr2 hr
 by_cases c2:e=0
 ·subst c2
  have hsy:=hsy rfl
  obtain ⟨q,hq⟩:∃ q,q=p+m:=⟨_,rfl⟩
  have hq8:q≤8*b.length:=zO
  simp only [Zwt,if_true,BR.bnd] at hx
  rw [←hq] at hN hx
  by_cases c3:sy<256
  ·rw [if_pos c3] at hx
   have d3:decide ((sy:Int)<256)=true:=decide_eq_true zO
   obtain ⟨v,rfl⟩:∃ v:UInt8,sy=v.toNat:=⟨UInt8.ofNat sy,by rw [UInt8.toNat_ofNat',Nat.mod_eq_of_lt zO]⟩
   rw [UInt8.ofNat_toNat] at hx
   have hv:=v.toNat_lt
   by_cases c4:most≤o.length
   ·rw [if_pos c4] at hx
    simp only [BT.run] at hx
    subst hx
    have hL:=Zm3 t most hm nl b q o hom v c4
    repeat (first|refine zR BH8 ?_|exact zU BH8)
    refine Zab [(1001,0)] 2000 hN zB zB ?_ ?_ ?_
    iterate 2 (case _=>(first|exact yU BH1|refine yR BH1 ?_))
    repeat (first|refine zR (ja3 @unR.eq_1 @rdR.eq_1 @d3) ?_|exact zU (ja3 @unR.eq_1 @rdR.eq_1 @d3))
    refine Zab [(1000,0),(1001,0),(1002,g)] 3000 hL zB zB ?_ ?_ ?_
    iterate 2 (case _=>(first|exact yU BH2|refine yR BH2 ?_))
    repeat (first|refine zR BH12 ?_|exact zU BH12)
    omega
   ·rw [if_neg c4] at hx
    have hL:=ZoF t most hm nl b q o zO v
    repeat (first|refine zR BH8 ?_|exact zU BH8)
    refine Zab [(1001,0)] 2000 hN zB zB ?_ ?_ ?_
    iterate 2 (case _=>(first|exact yU BH1|refine yR BH1 ?_))
    repeat (first|refine zR (ja3 @unR.eq_1 @rdR.eq_1 @d3) ?_|exact zU (ja3 @unR.eq_1 @rdR.eq_1 @d3))
    refine Zab [(1000,0),(1001,0),(1002,g)] 3000 hL zB zB ?_ ?_ ?_
    iterate 2 (case _=>(first|exact yU BH2|refine yR BH2 ?_))
    repeat (first|refine zR BH18 ?_|exact zU BH18)
    refine At.of (f,o++[v],q,c+100+2,c+110) ⟨hx,hq8,by simp only;omega,by simp only [List.length_append,List.length_singleton];omega,by simp only;omega⟩ (by simp only;omega) rfl rfl ?_ ?_ ?_
    ·simp only;omega
    iterate 2 (case _=>(first|exact yU BH21|refine yR BH21 ?_))
  ·rw [if_neg c3] at hx
   have d3:decide ((sy:Int)<256)=false:=decide_eq_false zO
   by_cases c4:sy=256
   ·rw [if_pos c4] at hx
    simp only [BT.run] at hx
    subst hx c4
    repeat (first|refine zR BH8 ?_|exact zU BH8)
    refine Zab [(1001,0)] 2000 hN zB zB ?_ ?_ ?_
    iterate 2 (case _=>(first|exact yU BH1|refine yR BH1 ?_))
    iterate 1 (first|refine zR BH6 ?_|exact zU BH6)
    refine SWp.le (Zal (N:=45) (gc:=1000*F+1) (l:=[(0,.op 1000 0 0),(5,int 256),(6,int 0)]) (h:=[(1000,0,.row false (unR t most g o.length)),(1001,0,.row false (rdR nl b q)),(1002,g,.row (nl0 o.length) (o.map u8))]) rfl ?_ ?_ ?_) ?_
    ·simp only;omega
    iterate 2 (case _=>(first|exact yU BH6|refine yR BH6 ?_))
    refine SWp.renew 1002 g (o:=.row (nl0 o.length) (o.map u8)) yT ?_
    refine SWp.le (Zal (N:=45) (gc:=1000*F+2) (l:=[(0,.op 1000 0 0),(5,int 256),(6,int 0)]) (h:=[(1000,0,.row false (unR t most (1000*F+1) o.length)),(1001,0,.row false (rdR nl b q)),(1002,1000*F+1,.row (nl0 o.length) (o.map u8))]) rfl ?_ ?_ ?_) ?_
    ·exact Nat.le_refl _
    iterate 2 (case _=>(first|exact yU BH22|refine yR BH22 ?_))
    repeat (first|refine zR BH23 ?_|exact zU BH23)
   ·rw [if_neg c4] at hx
    have d4:decide ((sy:Int)=256)=false:=decide_eq_false zO
    have es:(sy:Int)-256-1=((sy-257:Nat):Int):=zO
    rw [Zak] at hx
    have hR:=ZwB t most hm nl b hb q hq8 o hom (sy-257) zO d hd hK
    obtain ⟨z,hz⟩:∃ z,z=sy-257:=⟨_,rfl⟩
    rw [←hz] at hR hx es
    have hRi:=fun a j (h:(ZuJ most d o z).run (Zae b) q = .ok a j)=>Zhb h
    have hRm:=fun a j (h:(ZuJ most d o z).run (Zae b) q = .ok a j)=>ZwA h
    rw [Zad] at hRi
    obtain ⟨r3,hr3⟩:∃ r,r=(ZuJ most d o z).run (Zae b) q:=⟨_,rfl⟩
    rw [←hr3] at hR hRi hRm hx
    cases r3 with
    | no e3 =>
     simp only [BR.bnd] at hx
     subst hx
     have de:decide ((e3:Int)=0)=false:=decide_eq_false (by have:=hR.1;omega)
     repeat (first|refine zR BH8 ?_|exact zU BH8)
     refine Zab [(1001,0)] 2000 hN zB zB ?_ ?_ ?_
     iterate 2 (case _=>(first|exact yU BH1|refine yR BH1 ?_))
     repeat (first|refine zR (ja5 @unR.eq_1 @rdR.eq_1 @d3 @d4 @es) ?_|exact zU (ja5 @unR.eq_1 @rdR.eq_1 @d3 @d4 @es))
     refine Zab [(1000,0),(1001,0),(1002,g)] 3000 hR.2 zB zB ?_ ?_ ?_
     iterate 2 (case _=>(first|exact yU BH19|refine yR BH19 ?_))
     repeat (first|refine zR (ja5 @ZbV.eq_1 @ZbV.eq_2 @ZbW.eq_1 @ZbW.eq_2 @de) ?_|exact zU (ja5 @ZbV.eq_1 @ZbV.eq_2 @ZbW.eq_1 @ZbW.eq_2 @de))
     omega
    | ok o2 j =>
     have hj:=hRi o2 j rfl
     have hm2:=hRm o2 j rfl
     simp only [BR.bnd] at hx
     repeat (first|refine zR BH8 ?_|exact zU BH8)
     refine Zab [(1001,0)] 2000 hN zB zB ?_ ?_ ?_
     iterate 2 (case _=>(first|exact yU BH1|refine yR BH1 ?_))
     repeat (first|refine zR (ja5 @unR.eq_1 @rdR.eq_1 @d3 @d4 @es) ?_|exact zU (ja5 @unR.eq_1 @rdR.eq_1 @d3 @d4 @es))
     refine Zab [(1000,0),(1001,0),(1002,g)] 3000 hR zB zB ?_ ?_ ?_
     iterate 2 (case _=>(first|exact yU BH19|refine yR BH19 ?_))
     repeat (first|refine zR BH18 ?_|exact zU BH18)
     refine At.of (f,o2,j,c+100+500,c+700) ⟨hx,hj.2 hq8,by simp only;omega,hm2,by simp only;omega⟩ (by simp only;omega) rfl rfl ?_ ?_ ?_
     ·simp only;omega
     iterate 2 (case _=>(first|exact yU (ja3 @cds.eq_1 @unR.eq_1 @rdR.eq_1)|refine yR (ja3 @cds.eq_1 @unR.eq_1 @rdR.eq_1) ?_))
 ·simp only [Zwt,if_neg c2,BR.bnd] at hx
  have de:decide ((e:Int)=0)=false:=decide_eq_false zO
  subst hx
  repeat (first|refine zR BH8 ?_|exact zU BH8)
  refine Zab [(1001,0)] 2000 hN zB zB ?_ ?_ ?_
  iterate 2 (case _=>(first|exact yU BH1|refine yR BH1 ?_))
  repeat (first|refine zR (ja5 @ZbV.eq_1 @ZbV.eq_2 @ZbW.eq_1 @ZbW.eq_2 @de) ?_|exact zU (ja5 @ZbV.eq_1 @ZbV.eq_2 @ZbW.eq_1 @ZbW.eq_2 @de))
  omega
def BH9:=ja2 @unI.eq_1 @unR.eq_1
def BH10:=ja2 @rdR.eq_1 @unR.eq_1
set_option maxHeartbeats 1000000 in
theorem Zlp [Tabs Tryz.prog] (t:Bool) (most:Nat) (hm:most≤16777216) (nl:Bool) (b:List UInt8) (hb:b.length≤1000000) (hnl:nl=true→b=[]) (i:Nat) (hi:i≤8*b.length) (out:List UInt8) (ho:out.length≤most) (r:BR (List UInt8)) (hr:(ZuK most out).run (Zae b) i=r) :
  HCon Tryz.prog Zc3 [.op 1000 0 0] (unI t most nl b i out) (ZbV r) (ZbW 73 t most nl b r) 80:=by
 refine HCon.of' mix Tryz.func44 rfl Tryz.ntmps44 ZgC ZgD zB (by simp [AV.gl,AV.gl.glL]) Zem ?_
 unfold Zc6
 rw [Zsq hi] at hr
 obtain ⟨q,hq⟩:∃ q,q=(i+7) / 8:=⟨_,rfl⟩
 rw [←hq] at hr
 have hAl:=Zii nl b hb i hi
 rw [←hq] at hAl
 repeat (first|refine zR BH9 ?_|exact zU BH9)
 refine Zab [(1001,0)] 2000 hAl zB zB ?_ ?_ ?_
 iterate 2 (case _=>(first|exact yU @rdR.eq_1|refine yR @rdR.eq_1 ?_))
 by_cases c1:8*b.length<q*8+16
 ·rw [if_pos c1] at hr
  subst hr
  have hT:=Zdw nl b hb (q*8) zO 16 (decide_eq_false zO)
  repeat (first|refine zR BH10 ?_|exact zU BH10)
  refine Zab [(1001,0)] 3000 hT zB zB ?_ ?_ ?_
  iterate 2 (case _=>(first|exact yU @rdR.eq_1|refine yR @rdR.eq_1 ?_))
  repeat (first|refine zR BH12 ?_|exact zU BH12)
 ·rw [if_neg c1] at hr
  have hT:=Zdo nl b hb (q*8) zO 16 zO zO
  have hx1:=Zen (b:=b) (i:=q*8) (n:=16)
  obtain ⟨x,hx⟩:∃ x,x=ZaG b (q*8) 16:=⟨_,rfl⟩
  rw [←hx] at hT hr hx1
  repeat (first|refine zR BH10 ?_|exact zU BH10)
  refine Zab [(1001,0)] 3000 hT zB zB ?_ ?_ ?_
  iterate 2 (case _=>(first|exact yU @rdR.eq_1|refine yR @rdR.eq_1 ?_))
  by_cases c2:8*b.length<q*8+32
  ·rw [if_pos c2] at hr
   subst hr
   have hT:=Zdw nl b hb (q*8+16) zO 16 (decide_eq_false zO)
   repeat (first|refine zR BH10 ?_|exact zU BH10)
   refine Zab [(1001,0)] 4000 hT zB zB ?_ ?_ ?_
   iterate 2 (case _=>(first|exact yU @rdR.eq_1|refine yR @rdR.eq_1 ?_))
   repeat (first|refine zR BH12 ?_|exact zU BH12)
  ·rw [if_neg c2] at hr
   have hT:=Zdo nl b hb (q*8+16) zO 16 zO zO
   have hy1:=Zen (b:=b) (i:=q*8+16) (n:=16)
   obtain ⟨y,hy⟩:∃ y,y=ZaG b (q*8+16) 16:=⟨_,rfl⟩
   rw [←hy] at hT hr hy1
   repeat (first|refine zR BH10 ?_|exact zU BH10)
   refine Zab [(1001,0)] 4000 hT zB zB ?_ ?_ ?_
   iterate 2 (case _=>(first|exact yU @rdR.eq_1|refine yR @rdR.eq_1 ?_))
   by_cases c3:x+y≠65535
   ·rw [if_pos c3] at hr
    subst hr
    have d3:decide ((x:Int)+(y:Int)=65535)=false:=decide_eq_false zO
    repeat (first|refine zR (ja5 @ZbV.eq_1 @ZbV.eq_2 @ZbW.eq_1 @ZbW.eq_2 @d3) ?_|exact zU (ja5 @ZbV.eq_1 @ZbV.eq_2 @ZbW.eq_1 @ZbW.eq_2 @d3))
   ·rw [if_neg c3] at hr
    have d3:decide ((x:Int)+(y:Int)=65535)=true:=decide_eq_true zO
    have ej:q+4=(q*8+16+16+7) / 8:=zO
    by_cases c4:b.length<q+4+x
    ·rw [if_pos c4] at hr
     subst hr
     have hB:=Zoq nl b hb (q*8+16+16) zO (x:Int) (decide_eq_false zO)
     repeat (first|refine zR (ja3 @d3 @rdR.eq_1 @unR.eq_1) ?_|exact zU (ja3 @d3 @rdR.eq_1 @unR.eq_1))
     refine Zab [(1001,0)] 5000 hB zB zB ?_ ?_ ?_
     iterate 2 (case _=>(first|exact yU @rdR.eq_1|refine yR @rdR.eq_1 ?_))
     repeat (first|refine zR BH12 ?_|exact zU BH12)
    ·rw [if_neg c4] at hr
     have hB:=ZpH nl b hb hnl (q*8+16+16) zO (q+4) ej x zO
     have hlen:((b.drop (q+4)).take x).length=x:=by rw [List.length_take,List.length_drop];omega
     obtain ⟨z,hz⟩:∃ z,z=(b.drop (q+4)).take x:=⟨_,rfl⟩
     rw [←hz] at hB hr hlen
     have hRo:=Zhd t most hm nl b (8*(q+4+x)) out ho
     repeat (first|refine zR (ja3 @d3 @rdR.eq_1 @unR.eq_1) ?_|exact zU (ja3 @d3 @rdR.eq_1 @unR.eq_1))
     refine Zab [(1001,0)] 5000 hB zB zB ?_ ?_ ?_
     iterate 2 (case _=>(first|exact yU @rdR.eq_1|refine yR @rdR.eq_1 ?_))
     repeat (first|refine zR BH10 ?_|exact zU BH10)
     refine Zab [(1000,0),(1001,0),(1002,0)] 6000 hRo zB zB ?_ ?_ ?_
     iterate 2 (case _=>(first|exact yU BH2|refine yR BH2 ?_))
     by_cases c5:most<out.length+x
     ·rw [if_pos c5] at hr
      subst hr
      have d5:decide (((most-out.length:Nat):Int)<(x:Int))=true:=decide_eq_true zO
      repeat (first|refine zR (ja5 @ZbV.eq_1 @ZbV.eq_2 @ZbW.eq_1 @ZbW.eq_2 @d5) ?_|exact zU (ja5 @ZbV.eq_1 @ZbV.eq_2 @ZbW.eq_1 @ZbW.eq_2 @d5))
     ·rw [if_neg c5] at hr
      subst hr
      have d5:decide (((most-out.length:Nat):Int)<(x:Int))=false:=decide_eq_false zO
      have hn0:nl0 (out.length+x)=(nl0 out.length&&(z.map u8).isEmpty):=by
       cases out with
       | nil=>cases z with
           | nil=>simp at hlen;subst hlen;rfl
           | cons a z=>simp at hlen;rw [←hlen];rfl
       | cons a out=>simp only [List.length_cons];rw [Zci zO,Zci zO];rfl
      repeat (first|refine zR (ja8 @ZbV.eq_1 @ZbV.eq_2 @ZbW.eq_1 @ZbW.eq_2 @d5 @unO.eq_1 @unR.eq_1 (ja5 @rdR.eq_1 @Zaa @Zhc @hlen @hn0)) ?_|exact zU (ja8 @ZbV.eq_1 @ZbV.eq_2 @ZbW.eq_1 @ZbW.eq_2 @d5 @unO.eq_1 @unR.eq_1 (ja5 @rdR.eq_1 @Zaa @Zhc @hlen @hn0)))
theorem ZyZ {l:List Nat} {k:Nat} (h:k<l.length):(l.take (k+1)).sum=(l.take k).sum+l.getD k 0:=by
 rw [Zm0 (d:=0) h,List.sum_append];simp
theorem ZoJ:∀ {l:List Nat},(∀ x∈l,x≤15)→l.sum≤15*l.length
 | [],_=>by simp
 | x::l,h=>by
  have:=ZoJ (l:=l) fun y hy=>h y (by simp [hy])
  have:=h x zB
  simp only [List.sum_cons,List.length_cons];omega
theorem ZBc {n:Nat}:wt n≤16384*n:=by
 unfold wt
 split
 ·omega
 ·rename_i h
  have h2:2^1≤2^n:=ZaI zO
  have:32768 / 2^n≤32768 / 2:=Nat.div_le_div_left (by simpa using h2) zO
  omega
theorem ZwN {l:List Nat}:Zas l≤16384*l.sum:=by
 induction l with
 | nil=>simp [Zas]
 | cons x l ih=>simp only [Zas,List.sum_cons];have:=ZBc (n:=x);omega
theorem ZnL {d:List Nat} (h:Zzx d=true):Zas d≤32768:=by
 have:=ZwN (l:=d)
 simp only [Zzx,fulN,Bool.or_eq_true,decide_eq_true_eq] at h
 omega
def BH24:=ja2 @List.take_zero.{0} @List.sum_nil.{0}
theorem ZmJ [Tabs Tryz.prog] (nl:Bool) (l:List Nat) (h15:∀ x∈l,x≤15) (hl:l.length≤1000):Con Tryz.prog Zfy [.sl nl none (l.map nA)] (boo (Zzx l)):=by
 refine Con.of' mix Tryz.func132 rfl Tryz.ntmps132 Zjs Zjt zB (by simp only [AV.free,AV.free.freeL,Zaj,Bool.and_self]) rfl ?_
 unfold ZfS
 have hf:=ZjF nl l h15 hl
 repeat (first|refine zS ?_|exact zT)
 refine SWp.loop (α:=Nat) (fun k=>mk 22 0 [(0,.sl nl none (l.map nA)),(3,int ((l.take k).sum:Nat)),(6,.sl nl none (l.map nA)),(7,int l.length),(8,int k)] [])
  (fun k=>k≤l.length) (fun k=>l.length-k) 0 (Nat.zero_le _) (Zal rfl ?_ ?_ ?_) ?_
 ·exact Nat.le_refl _
 iterate 2 (case _=>(first|exact yU BH24|refine yR BH24 ?_))
 rintro k hk -
 have hsl:=ZoJ (l:=l.take k) fun x hx=>h15 x (List.mem_of_mem_take hx)
 have htl:(l.take k).length≤1000:=by rw [List.length_take];omega
 repeat (first|refine zS ?_|exact zT)
 refine SWp.cond rfl (fun h=>?_) (fun h=>?_)
 ·simp only [decide_eq_true_eq] at h
  have hkl:k<l.length:=zO
  have hs:=ZyZ hkl
  have hx15:l.getD k 0≤15:=by
   have:l.getD k 0=l[k]:=by simp [List.getD,List.getElem?_eq_getElem hkl]
   rw [this];exact h15 _ (List.getElem_mem hkl)
  obtain ⟨x,hx⟩:∃ x,x=l.getD k 0:=⟨_,rfl⟩
  obtain ⟨y,hy⟩:∃ y,y=(l.take k).sum:=⟨_,rfl⟩
  rw [←hx] at hs hx15
  rw [←hy] at hs hsl
  repeat (first|refine zR (ja3 iR hx.symm hy.symm) ?_|exact zU (ja3 iR hx.symm hy.symm))
  refine At.of (k+1) zO zO rfl rfl (Nat.le_refl _) ?_ ?_
  iterate 2 (case _=>(first|exact yU @hs|refine yR @hs ?_))
 ·simp only [decide_eq_false_iff_not] at h
  obtain rfl:k=l.length:=zO
  rw [List.take_length] at hsl htl
  obtain ⟨y,hy⟩:∃ y,y=l.sum:=⟨_,rfl⟩
  have hfe:Zzx l=(decide (y≤1) || fulN l):=by rw [hy];rfl
  rw [hfe]
  by_cases c:y≤1
  ·have d:decide ((y:Int)≤1)=true:=decide_eq_true zO
   rw [decide_eq_true c,Bool.true_or]
   repeat (first|refine zR (ja3 @List.take_length.{0} hy.symm @d) ?_|exact zU (ja3 @List.take_length.{0} hy.symm @d))
  ·have d:decide ((y:Int)≤1)=false:=decide_eq_false zO
   rw [decide_eq_false c,Bool.false_or]
   repeat (first|refine zR (ja3 @List.take_length.{0} hy.symm @d) ?_|exact zU (ja3 @List.take_length.{0} hy.symm @d))
   refine Zaq _ (.inl ⟨by simp only [AV.free,AV.free.freeL,Zaj,Bool.and_self],hf⟩) ?_
   repeat (first|refine zS ?_|exact zT)
theorem ZoK [Tabs Tryz.prog] (n1 n2:Bool) (l d:List Nat) (hl15:∀ x∈l,x≤15) (hd15:∀ x∈d,x≤15) (hl:257≤l.length) (hl2:l.length≤320) (hd:d.length≤320) :
  Con Tryz.prog ZgU [.sl n1 none (l.map nA),.sl n2 none (d.map nA)] (if Zsp l d=true then .tup [cds l d,int 0] else .tup [.sc (.pointer none),int 3]):=by
 have hfr:(if Zsp l d=true then AV.tup [cds l d,int 0] else .tup [.sc (.pointer none),int 3]).free=true:=by
  by_cases c:Zsp l d=true
  ·rw [if_pos c];simp only [AV.free,AV.free.freeL,Zkl,int,Bool.and_self]
  ·rw [if_neg c];rfl
 refine Con.of' mix Tryz.func95 rfl Tryz.ntmps95 ZkQ ZkR zB (by simp only [AV.free,AV.free.freeL,Zaj,Bool.and_self]) hfr ?_
 clear hfr
 unfold Zg1
 have hf:=ZjF n1 l hl15 zO
 have hw:=ZmJ n2 d hd15 zO
 have hfl:AV.free.freeL [.sl n1 none (l.map nA)]=true:=by simp only [AV.free,AV.free.freeL,Zaj,Bool.and_self]
 have hfd:AV.free.freeL [.sl n2 none (d.map nA)]=true:=by simp only [AV.free,AV.free.freeL,Zaj,Bool.and_self]
 obtain ⟨x,hx⟩:∃ x,x=l.getD 256 0:=⟨_,rfl⟩
 have hco:Zsp l d=(decide (x≠0)&&fulN l&&Zzx d):=by rw [hx];rfl
 rw [hco]
 by_cases c1:x=0
 ·have d1:decide ((x:Int)=0)=true:=decide_eq_true zO
  rw [decide_eq_false (by simpa using c1),Bool.false_and,Bool.false_and,if_neg zB]
  repeat (first|refine zR (ja3 iR hx.symm @d1) ?_|exact zU (ja3 iR hx.symm @d1))
 have d1:decide ((x:Int)=0)=false:=decide_eq_false zO
 rw [decide_eq_true (by simpa using c1),Bool.true_and]
 cases c2:fulN l with
 | false =>
  rw [c2] at hf
  rw [Bool.false_and,if_neg zB]
  repeat (first|refine zR (ja3 iR hx.symm @d1) ?_|exact zU (ja3 iR hx.symm @d1))
  refine Zaq _ (.inl ⟨hfl,hf⟩) ?_
  repeat (first|refine zR (ja3 iR hx.symm @d1) ?_|exact zU (ja3 iR hx.symm @d1))
 | true =>
  rw [c2] at hf
  rw [Bool.true_and]
  cases c3:Zzx d with
  | false =>
   rw [c3] at hw
   rw [if_neg zB]
   repeat (first|refine zR (ja3 iR hx.symm @d1) ?_|exact zU (ja3 iR hx.symm @d1))
   refine Zaq _ (.inl ⟨hfl,hf⟩) ?_
   repeat (first|refine zR (ja3 iR hx.symm @d1) ?_|exact zU (ja3 iR hx.symm @d1))
   refine Zaq _ (.inl ⟨hfd,hw⟩) ?_
   repeat (first|refine zR (ja3 iR hx.symm @d1) ?_|exact zU (ja3 iR hx.symm @d1))
  | true =>
   rw [c3] at hw
   rw [if_pos rfl]
   have t1:=Zc9 n1 l hl15 hl2 (by simp only [fulN,decide_eq_true_eq] at c2;omega)
   have t2:=Zc9 n2 d hd15 hd (ZnL c3)
   repeat (first|refine zR (ja3 iR hx.symm @d1) ?_|exact zU (ja3 iR hx.symm @d1))
   refine Zaq _ (.inl ⟨hfl,hf⟩) ?_
   repeat (first|refine zR (ja3 iR hx.symm @d1) ?_|exact zU (ja3 iR hx.symm @d1))
   refine Zaq _ (.inl ⟨hfd,hw⟩) ?_
   repeat (first|refine zR (ja3 iR hx.symm @d1) ?_|exact zU (ja3 iR hx.symm @d1))
   refine Zaq _ (.inl ⟨hfl,t1⟩) ?_
   repeat (first|refine zR (ja3 iR hx.symm @d1) ?_|exact zU (ja3 iR hx.symm @d1))
   refine Zaq _ (.inl ⟨hfd,t2⟩) ?_
   repeat (first|refine zR (ja3 iR @cds.eq_1 @ZbA) ?_|exact zU (ja3 iR @cds.eq_1 @ZbA))
   all_goals trace_state
theorem Zsy:∀ k,k<19→Zim.getD k 0<19:=by decide
theorem ZwO {b:List UInt8} {i:Nat}:ZaG b i 3≤7:=by have:=Zen (b:=b) (i:=i) (n:=3);omega
theorem ZwP {b:List UInt8}:∀ (n k i j:Nat) (l th:List Nat),l.length=19→(∀ x∈l,x≤7)→i≤8*b.length→(Zox n k l).run (Zae b) i = .ok th j→th.length=19∧∀ x∈th,x≤7:=by
 intro n
 induction n with
 | zero=>intro k i j l th h1 h2 hi h;simp only [Zox,BT.run,BR.ok.injEq] at h;obtain ⟨rfl,rfl⟩:=h;exact ⟨h1,h2⟩
 | succ n ih =>
  intro k i j l th h1 h2 hi h
  simp only [Zox,Zak] at h
  rw [Zdq hi] at h
  split at h
  ·simp only [BR.bnd] at h
   refine ih _ _ _ _ _ (by rw [List.length_set];exact h1) ?_ zO h
   intro x hx
   rcases List.mem_or_eq_of_mem_set hx with hx | rfl
   ·exact h2 x hx
   ·exact ZwO
  ·cases h
def Zd2 {α:Type} (good:α→AV):BR α→AV
 | .ok a _=>.tup [good a,int 0]
 | .no e=>.tup [.sc (.pointer none),int (e:Int)]
def Zbi {α:Type} (t:Bool) (most:Nat) (nl:Bool) (b:List UInt8) (out:List UInt8):BR α→List (Nat × Nat × AO)
 | .ok _ j=>unO 0 t most nl b j out
 | .no _=>[]
def ZgG (l:List Nat):AV:=.fp (.agg (trR l)) 0
theorem ZpV {l:List Nat}:(ZgG l).free=true:=by simp only [ZgG,AV.free,ZbA]
theorem ZlX {ρ:Nat→Nat→Nat × Nat} {l:List Nat}:ren ρ (ZgG l)=ZgG l:=Ziu ρ _ ZpV
def BH20:=ja6 @unR.eq_1 @rdR.eq_1 @Zd2.eq_1 @Zd2.eq_2 @Zbi.eq_1 @Zbi.eq_2
def BH25:=ja8 @Zd2.eq_1 @Zd2.eq_2 @Zbi.eq_1 @Zbi.eq_2 @unO.eq_1 @ZgG.eq_1 @unR.eq_1 @rdR.eq_1
def BH26:=ja4 @Zd2.eq_1 @Zd2.eq_2 @Zbi.eq_1 @Zbi.eq_2
set_option maxHeartbeats 1000000 in
theorem ZpW [Tabs Tryz.prog] (ht:Tabs.tab Tryz.prog 1=some (Zim.map nA)) (t:Bool) (most:Nat) (nl:Bool) (b:List UInt8) (hb:b.length≤1000000) (i:Nat) (hi:i≤8*b.length) (out:List UInt8) (n:Nat) (hn:n≤19) (r:BR (List Nat)) (hr:(ZuL n).run (Zae b) i=r) :
  HCon Tryz.prog Zc4 [.op 1000 0 0,int (n:Int)] (unI t most nl b i out) (Zd2 ZgG r) (Zbi t most nl b out r) 1000:=by
 refine HCon.of' mix Tryz.func93 rfl Tryz.ntmps93 ZgE ZgF zB (by simp [AV.gl,AV.gl.glL,int]) Zem ?_
 unfold Zc7
 have hG:∀ st,ev Tryz.prog st (.global 1) = .fp (.agg (Zim.map nA)) 0:=fun st=>Zpo ht
 obtain ⟨TT,hTT⟩:∃ TT,TT=Zim:=⟨_,rfl⟩
 have hTl:TT.length=19:=by rw [hTT];rfl
 have hTx:∀ k,k<19→TT.getD k 0<19:=by rw [hTT];exact Zsy
 have hz:(List.replicate 19 [AV.sc (.int .i64 0)]).flatten=(List.replicate 19 0).map nA:=Zzw
 rw [ZuL,Zak] at hr
 rw [←hTT] at hG
 obtain ⟨Z,hZ⟩:∃ Z:List Nat,Z=List.replicate 19 0:=⟨_,rfl⟩
 have hZl:Z.length=19:=by rw [hZ];rfl
 have hZ7:∀ x∈Z,x≤7:=by rw [hZ];simp
 rw [←hZ] at hz hr
 have hok:=ZwP (b:=b) n 0 i
 obtain ⟨r0,hr0⟩:∃ r0,(Zox n 0 Z).run (Zae b) i=r0:=⟨_,rfl⟩
 rw [hr0] at hr
 repeat (first|refine xR (ja2 @unI.eq_1 @hz) ?_|exact xU (ja2 @unI.eq_1 @hz))
 refine SWp.loop (α:=Nat × List Nat × Nat) (fun x=>mk 39 (2+30*x.1) [(0,.op 1000 0 0),(6,.own 10 1 none 0 19),(11,int (n:Int)),(12,int (x.1:Int))] [(1000,0,.row false (unR t most 0 out.length)),(1001,0,.row false (rdR nl b x.2.2)),(1002,0,.row (nl0 out.length) (out.map u8)),(10,1,.row false (x.2.1.map nA))])
  (fun x=>x.1≤n∧(Zox (n-x.1) x.1 x.2.1).run (Zae b) x.2.2=r0∧x.2.1.length=19∧(∀ y∈x.2.1,y≤7)∧x.2.2≤8*b.length) (fun x=>n-x.1) (0,Z,i) ⟨Nat.zero_le _,hr0,hZl,hZ7,hi⟩ (Zal rfl ?_ ?_ ?_) ?_
 ·exact Nat.le_refl _
 iterate 2 (case _=>(first|exact vT|refine vS ?_))
 rintro ⟨k,l,p⟩ ⟨hk,hx,hll,hl7,hp⟩ -
 simp only at hk hx hll hl7 hp
 repeat (first|refine xS ?_|exact xT)
 refine SWp.cond rfl (fun h=>?_) (fun h=>?_)
 ·simp only [decide_eq_true_eq] at h
  obtain ⟨f,hf⟩:∃ f,n-k=f+1:=⟨n-k-1,by omega⟩
  rw [hf,Zox,Zak,Zdq hp] at hx
  by_cases c1:p+3≤8*b.length
  ·rw [if_pos c1] at hx
   simp only [BR.bnd] at hx
   have hT:=Zdo nl b hb p hp 3 zO c1
   have hv7:=ZwO (b:=b) (i:=p)
   obtain ⟨v,hv⟩:∃ v,v=ZaG b p 3:=⟨_,rfl⟩
   rw [←hv] at hT hx hv7
   have hw:=hTx k zO
   rw [←hTT] at hx
   obtain ⟨w,hwd⟩:∃ w,w=TT.getD k 0:=⟨_,rfl⟩
   rw [←hwd] at hx hw
   have hsp:=ZeG (l:=l) (k:=w) (x:=v) zO
   repeat (first|refine xR @unR.eq_1 ?_|exact xU @unR.eq_1)
   refine Zab [(1001,0)] 2000 hT zB zB ?_ ?_ ?_
   iterate 2 (case _=>(first|exact vU @rdR.eq_1|refine vR @rdR.eq_1 ?_))
   repeat (first|refine xR (ja7 @unR.eq_1 @rdR.eq_1 @hG iR hwd.symm @hTl @hll) ?_|exact xU (ja7 @unR.eq_1 @rdR.eq_1 @hG iR hwd.symm @hTl @hll))
   refine At.of (k+1,l.set w v,p+3) ⟨by simp only;omega,by simp only;rw [show n-(k+1)=f by omega];exact hx,by simp only [List.length_set];exact hll,?_,c1⟩ (by simp only;omega) rfl rfl ?_ ?_ ?_
   ·intro y hy
    rcases List.mem_or_eq_of_mem_set hy with hy | rfl
    ·exact hl7 y hy
    ·exact hv7
   ·simp only;omega
   iterate 2 (case _=>(first|exact vU (ja3 @unR.eq_1 @rdR.eq_1 @hsp)|refine vR (ja3 @unR.eq_1 @rdR.eq_1 @hsp) ?_))
  ·rw [if_neg c1] at hx
   simp only [BR.bnd] at hx
   subst hx
   simp only [BR.bnd] at hr
   subst hr
   have hT:=Zdw nl b hb p hp 3 (decide_eq_false zO)
   repeat (first|refine xR @unR.eq_1 ?_|exact xU @unR.eq_1)
   refine Zab [(1001,0)] 2000 hT zB zB ?_ ?_ ?_
   iterate 2 (case _=>(first|exact vU @rdR.eq_1|refine vR @rdR.eq_1 ?_))
   repeat (first|refine xR BH20 ?_|exact xU BH20)
   omega
 ·simp only [decide_eq_false_iff_not] at h
  obtain rfl:k=n:=zO
  rw [Nat.sub_self,Zox] at hx
  simp only [BT.run] at hx
  subst hx
  simp only [BR.bnd] at hr
  have hf:=ZjF false l (fun x hx=>by have:=hl7 x hx;omega) zO
  have hfr:AV.free.freeL [.sl false none (l.map nA)]=true:=by simp only [AV.free,AV.free.freeL,Zaj,Bool.and_self]
  have htk:l.take 19=l:=List.take_of_length_le zO
  by_cases c2:fulN l=true
  ·rw [if_pos c2] at hr
   simp only [BT.run] at hr
   subst hr
   rw [c2] at hf
   have t1:=Zc9 false l (fun x hx=>by have:=hl7 x hx;omega) zO (by simp only [fulN,decide_eq_true_eq] at c2;omega)
   repeat (first|refine xS ?_|exact xT)
   refine Zaq (boo true) (.inr ⟨rfl,?_,?_⟩) ?_
   ·(first|exact vU (ja3 iR @hll @htk)|refine vR (ja3 iR @hll @htk) ?_)
   ·(first|exact vU (ja3 iR @hll @htk)|refine vR (ja3 iR @hll @htk) ?_)
    exact hf
   repeat (first|refine xS ?_|exact xT)
   refine ZkK 10 1 (nl:=false) (cells:=l.map nA) [.sl false none (l.map nA)] _ vT (vU @Zaj) ?_ hfr t1 ?_
   ·(first|exact vU (ja4 fR iR @hll @htk)|refine vR (ja4 fR iR @hll @htk) ?_)
   repeat (first|refine xR BH25 ?_|exact xU BH25)
   omega
  ·rw [if_neg c2] at hr
   simp only [BT.run] at hr
   subst hr
   rw [Bool.not_eq_true] at c2
   rw [c2] at hf
   repeat (first|refine xS ?_|exact xT)
   refine Zaq (boo false) (.inr ⟨rfl,?_,?_⟩) ?_
   ·(first|exact vU (ja3 iR @hll @htk)|refine vR (ja3 iR @hll @htk) ?_)
   ·(first|exact vU (ja3 iR @hll @htk)|refine vR (ja3 iR @hll @htk) ?_)
    exact hf
   repeat (first|refine xR BH26 ?_|exact xU BH26)
   omega
def Zd4:BR (List Nat)→AV
 | .ok l _=>.tup [.sl false none (l.map nA),int 0]
 | .no e=>.tup [.sc (.slice none 0 0),int (e:Int)]
theorem ZrG {a c:Nat} (h:0<c):nl0 (a+c)=false:=Zci zO
def BH5:=ja2 @unR.eq_1 @ZgG.eq_1
def BH13:=ja2 fR @nA.eq_1
def BH27:=ja4 @Zd4.eq_1 @Zd4.eq_2 @Zbi.eq_1 @Zbi.eq_2
def BH28:=ja7 @Zd4.eq_1 @Zd4.eq_2 @Zbi.eq_1 @Zbi.eq_2 @unO.eq_1 @unR.eq_1 @rdR.eq_1
set_option maxHeartbeats 2000000 in
theorem ZoL [Tabs Tryz.prog] (t:Bool) (most:Nat) (nl:Bool) (b:List UInt8) (hb:b.length≤1000000) (i:Nat) (hi:i≤8*b.length) (out:List UInt8) (th:List Nat) (hth:th.length=19) (hK:Zas th≤32768) (n:Nat) (hn0:0<n) (hn:n<400) (r:BR (List Nat)) (hr:(lsT th n 400 []).run (Zae b) i=r) :
  HCon Tryz.prog ZcJ [.op 1000 0 0,ZgG th,int (n:Int)] (unI t most nl b i out) (Zd4 r) (Zbi t most nl b out r) 500000:=by
 refine HCon.of' mix Tryz.func94 rfl Tryz.ntmps94 Zf9 Zga zB (by simp only [AV.gl.glL,AV.gl,int,and_true];exact ⟨by omega,Zbw 1 _ ZpV⟩) Zem ?_
 unfold ZcO
 repeat (first|refine zR @unI.eq_1 ?_|exact zU @unI.eq_1)
 refine SWp.adopt 8 none yT ?_
 refine SWp.loop (α:=Nat × List Nat × Nat × Nat × Nat) (fun x=>mk 70 x.2.2.2.2 [(0,.op 1000 0 0),(1,ZgG th),(2,int (n:Int)),(8,.own 8 x.2.2.2.1 none 0 x.2.1.length)] [(1000,0,.row false (unR t most 0 out.length)),(1001,0,.row false (rdR nl b x.2.2.1)),(1002,0,.row (nl0 out.length) (out.map u8)),(8,x.2.2.2.1,.row (nl0 x.2.1.length) (x.2.1.map nA))])
  (fun x=>(lsT th n x.1 x.2.1).run (Zae b) x.2.2.1=r∧x.2.2.1≤8*b.length∧x.2.1.length≤n∧n-x.2.1.length<x.1∧(∀ y∈x.2.1,y≤18)∧x.2.2.2.2+1000*x.1≤400002) (fun x=>x.1) (400,[],i,1,2) ⟨hr,hi,Nat.zero_le _,by simp only [List.length_nil];omega,by simp,by simp only;omega⟩ (Zal rfl ?_ ?_ ?_) ?_
 ·exact Nat.le_refl _
 iterate 2 (case _=>(first|exact yU @Zay|refine yR @Zay ?_))
 rintro ⟨f,l,p,g,c⟩ ⟨hx,hp,hln,hf,hl18,hc⟩ -
 simp only at hx hp hln hf hl18 hc
 obtain ⟨f,rfl⟩:∃ f',f=f'+1:=⟨f-1,by omega⟩
 rw [lsT] at hx
 repeat (first|refine zS ?_|exact zT)
 refine SWp.cond rfl (fun h=>?_) (fun h=>?_)
 ·simp only [decide_eq_true_eq] at h
  have hlt:l.length<n:=zO
  rw [if_neg zO,Zak,ZmD] at hx
  have hfc:=Zha (l:=th) (B:=(Zae b).drop p) 15 0 0 (Nat.zero_le _)
  have hsy:=Zin (l:=th) (B:=(Zae b).drop p) 15 0 0
  have hN:=ZjC th zO hK nl b hb p hp _ rfl
  rw [List.length_drop,Zad] at hfc
  obtain ⟨⟨sy,m,e⟩,hr2⟩:∃ r,r=nxt th ((Zae b).drop p) 15 0 0:=⟨_,rfl⟩
  rw [←hr2] at hfc hsy hN hx
  simp only at hfc hsy hN
  clear hr2 hr
  by_cases c2:e=0
  ·subst c2
   have hsy:=hsy rfl
   obtain ⟨q,hq⟩:∃ q,q=p+m:=⟨_,rfl⟩
   have hq8:q≤8*b.length:=zO
   simp only [Zwt,if_true,BR.bnd] at hx
   rw [←hq] at hN hx
   by_cases c16:sy=16∧l=[]
   ·rw [if_pos c16] at hx
    simp only [BT.run] at hx
    subst hx
    obtain ⟨rfl,rfl⟩:=c16
    repeat (first|refine zR BH5 ?_|exact zU BH5)
    refine Zab [(1001,0)] 2000 hN zB zB ?_ ?_ ?_
    iterate 2 (case _=>(first|exact yU BH1|refine yR BH1 ?_))
    repeat (first|refine zR BH27 ?_|exact zU BH27)
    omega
   ·rw [if_neg c16,Zak] at hx
    obtain ⟨V,hV⟩:∃ V,V=lsV sy l:=⟨_,rfl⟩
    obtain ⟨N,hN1⟩:∃ N,N=lsN sy:=⟨_,rfl⟩
    obtain ⟨Bt,hBt⟩:∃ B,B=lsB sy:=⟨_,rfl⟩
    have hV18:V≤18:=by
     rw [hV];unfold lsV
     split
     ·rename_i e16
      have hne:l≠[]:=fun h=>c16 ⟨e16,h⟩
      have h0:l.length-1<l.length:=by have:=List.length_pos_iff.2 hne;omega
      have:l.getD (l.length-1) 0=l[l.length-1]:=by simp [List.getD,List.getElem?_eq_getElem h0]
      rw [this];exact hl18 _ (List.getElem_mem h0)
     ·split
      ·omega
      ·omega
    have hN3:1≤N∧N≤11:=by rw [hN1];unfold lsN;split <;> (try split) <;> omega
    have hB7:Bt≤7:=by rw [hBt];unfold lsB;split <;> (try split) <;> (try split) <;> omega
    rw [←hV,←hN1,←hBt] at hx
    have hA:=Zk2 t most nl b hb q hq8 out N Bt zO zO
    have hAi:=fun a j (h:(ZeO N Bt).run (Zae b) q = .ok a j)=>(Zhb h).2 (by rw [Zad];exact hq8)
    have hA2:=fun a j (h:(ZeO N Bt).run (Zae b) q = .ok a j)=>And.intro (Zov Zdc h) (ZyO h)
    have hp7:2^Bt≤128:=ZaI (n:=Bt) (m:=7) hB7
    obtain ⟨r1,hr1⟩:∃ r,r=(ZeO N Bt).run (Zae b) q:=⟨_,rfl⟩
    rw [←hr1] at hA hAi hA2 hx
    cases r1 with
    | no e1 =>
     simp only [BR.bnd] at hx
     subst hx
     have de:decide ((e1:Int)=0)=false:=decide_eq_false (by have:=hA.1;omega)
     by_cases e16:sy=16
     ·subst e16
      have hl0:0<l.length:=List.length_pos_iff.2 fun h=>c16 ⟨rfl,h⟩
      have dl:decide ((l.length:Int)=0)=false:=decide_eq_false zO
      obtain ⟨z,hz⟩:∃ z,z=l.length-1:=⟨_,rfl⟩
      have ez:(l.length:Int)-1=(z:Int):=zO
      have hVz:l.getD z 0=V:=by rw [hV,hz];rfl
      obtain rfl:N=3:=hN1
      obtain rfl:Bt=2:=hBt
      repeat (first|refine zR BH5 ?_|exact zU BH5)
      refine Zab [(1001,0)] 2000 hN zB zB ?_ ?_ ?_
      iterate 2 (case _=>(first|exact yU BH1|refine yR BH1 ?_))
      repeat (first|refine zR (ja6 @unR.eq_1 @rdR.eq_1 @dl @ez iR @hVz) ?_|exact zU (ja6 @unR.eq_1 @rdR.eq_1 @dl @ez iR @hVz))
      refine Zab [(1000,0),(1001,0),(1002,0)] 3000 hA.2 zB zB ?_ ?_ ?_
      iterate 2 (case _=>(first|exact yU BH2|refine yR BH2 ?_))
      repeat (first|refine zR (ja8 @unO.eq_1 @unR.eq_1 @rdR.eq_1 @Zaa @noI.eq_1 @Zd4.eq_1 @Zd4.eq_2 (ja3 @Zbi.eq_1 @Zbi.eq_2 @de)) ?_|exact zU (ja8 @unO.eq_1 @unR.eq_1 @rdR.eq_1 @Zaa @noI.eq_1 @Zd4.eq_1 @Zd4.eq_2 (ja3 @Zbi.eq_1 @Zbi.eq_2 @de)))
      omega
     have d16:decide ((sy:Int)=16)=false:=decide_eq_false zO
     by_cases e17:sy=17
     ·subst e17
      obtain rfl:V=0:=hV
      obtain rfl:N=3:=hN1
      obtain rfl:Bt=3:=hBt
      repeat (first|refine zR BH5 ?_|exact zU BH5)
      refine Zab [(1001,0)] 2000 hN zB zB ?_ ?_ ?_
      iterate 2 (case _=>(first|exact yU BH1|refine yR BH1 ?_))
      repeat (first|refine zR BH6 ?_|exact zU BH6)
      refine Zab [(1000,0),(1001,0),(1002,0)] 3000 hA.2 zB zB ?_ ?_ ?_
      iterate 2 (case _=>(first|exact yU BH2|refine yR BH2 ?_))
      repeat (first|refine zR (ja8 @unO.eq_1 @unR.eq_1 @rdR.eq_1 @Zaa @noI.eq_1 @Zd4.eq_1 @Zd4.eq_2 (ja3 @Zbi.eq_1 @Zbi.eq_2 @de)) ?_|exact zU (ja8 @unO.eq_1 @unR.eq_1 @rdR.eq_1 @Zaa @noI.eq_1 @Zd4.eq_1 @Zd4.eq_2 (ja3 @Zbi.eq_1 @Zbi.eq_2 @de)))
      omega
     have d17:decide ((sy:Int)=17)=false:=decide_eq_false zO
     by_cases e18:sy=18
     ·subst e18
      obtain rfl:V=0:=hV
      obtain rfl:N=11:=hN1
      obtain rfl:Bt=7:=hBt
      repeat (first|refine zR BH5 ?_|exact zU BH5)
      refine Zab [(1001,0)] 2000 hN zB zB ?_ ?_ ?_
      iterate 2 (case _=>(first|exact yU BH1|refine yR BH1 ?_))
      repeat (first|refine zR BH6 ?_|exact zU BH6)
      refine Zab [(1000,0),(1001,0),(1002,0)] 3000 hA.2 zB zB ?_ ?_ ?_
      iterate 2 (case _=>(first|exact yU BH2|refine yR BH2 ?_))
      repeat (first|refine zR (ja8 @unO.eq_1 @unR.eq_1 @rdR.eq_1 @Zaa @noI.eq_1 @Zd4.eq_1 @Zd4.eq_2 (ja3 @Zbi.eq_1 @Zbi.eq_2 @de)) ?_|exact zU (ja8 @unO.eq_1 @unR.eq_1 @rdR.eq_1 @Zaa @noI.eq_1 @Zd4.eq_1 @Zd4.eq_2 (ja3 @Zbi.eq_1 @Zbi.eq_2 @de)))
      omega
     have d18:decide ((sy:Int)=18)=false:=decide_eq_false zO
     obtain rfl:V=sy:=by rw [hV,lsV,if_neg e16,if_neg zO]
     obtain rfl:N=1:=by rw [hN1,lsN,if_neg zO,if_neg e18]
     obtain rfl:Bt=0:=by rw [hBt,lsB,if_neg e16,if_neg e17,if_neg e18]
     repeat (first|refine zR BH5 ?_|exact zU BH5)
     refine Zab [(1001,0)] 2000 hN zB zB ?_ ?_ ?_
     iterate 2 (case _=>(first|exact yU BH1|refine yR BH1 ?_))
     repeat (first|refine zR (ja5 @unR.eq_1 @rdR.eq_1 @d16 @d17 @d18) ?_|exact zU (ja5 @unR.eq_1 @rdR.eq_1 @d16 @d17 @d18))
     refine Zab [(1000,0),(1001,0),(1002,0)] 3000 hA.2 zB zB ?_ ?_ ?_
     iterate 2 (case _=>(first|exact yU BH2|refine yR BH2 ?_))
     repeat (first|refine zR (ja8 @unO.eq_1 @unR.eq_1 @rdR.eq_1 @Zaa @noI.eq_1 @Zd4.eq_1 @Zd4.eq_2 (ja3 @Zbi.eq_1 @Zbi.eq_2 @de)) ?_|exact zU (ja8 @unO.eq_1 @unR.eq_1 @rdR.eq_1 @Zaa @noI.eq_1 @Zd4.eq_1 @Zd4.eq_2 (ja3 @Zbi.eq_1 @Zbi.eq_2 @de)))
     omega
    | ok a j =>
     have hj:=hAi a j rfl
     have ha:=hA2 a j rfl
     rw [Zad] at hj
     simp only [BR.bnd] at hx
     by_cases c3:n<l.length+a
     ·rw [if_pos c3] at hx
      simp only [BT.run] at hx
      subst hx
      have d3:decide ((n:Int)-(l.length:Int)<(a:Int))=true:=decide_eq_true zO
      by_cases e16:sy=16
      ·subst e16
       have hl0:0<l.length:=List.length_pos_iff.2 fun h=>c16 ⟨rfl,h⟩
       have dl:decide ((l.length:Int)=0)=false:=decide_eq_false zO
       obtain ⟨z,hz⟩:∃ z,z=l.length-1:=⟨_,rfl⟩
       have ez:(l.length:Int)-1=(z:Int):=zO
       have hVz:l.getD z 0=V:=by rw [hV,hz];rfl
       obtain rfl:N=3:=hN1
       obtain rfl:Bt=2:=hBt
       repeat (first|refine zR BH5 ?_|exact zU BH5)
       refine Zab [(1001,0)] 2000 hN zB zB ?_ ?_ ?_
       iterate 2 (case _=>(first|exact yU BH1|refine yR BH1 ?_))
       repeat (first|refine zR (ja6 @unR.eq_1 @rdR.eq_1 @dl @ez iR @hVz) ?_|exact zU (ja6 @unR.eq_1 @rdR.eq_1 @dl @ez iR @hVz))
       refine Zab [(1000,0),(1001,0),(1002,0)] 3000 hA zB zB ?_ ?_ ?_
       iterate 2 (case _=>(first|exact yU BH2|refine yR BH2 ?_))
       repeat (first|refine zR (ja8 @unO.eq_1 @unR.eq_1 @rdR.eq_1 @Zaa @okI.eq_1 @Zd4.eq_1 @Zd4.eq_2 (ja3 @Zbi.eq_1 @Zbi.eq_2 @d3)) ?_|exact zU (ja8 @unO.eq_1 @unR.eq_1 @rdR.eq_1 @Zaa @okI.eq_1 @Zd4.eq_1 @Zd4.eq_2 (ja3 @Zbi.eq_1 @Zbi.eq_2 @d3)))
       omega
      have d16:decide ((sy:Int)=16)=false:=decide_eq_false zO
      by_cases e17:sy=17
      ·subst e17
       obtain rfl:V=0:=hV
       obtain rfl:N=3:=hN1
       obtain rfl:Bt=3:=hBt
       repeat (first|refine zR BH5 ?_|exact zU BH5)
       refine Zab [(1001,0)] 2000 hN zB zB ?_ ?_ ?_
       iterate 2 (case _=>(first|exact yU BH1|refine yR BH1 ?_))
       repeat (first|refine zR BH6 ?_|exact zU BH6)
       refine Zab [(1000,0),(1001,0),(1002,0)] 3000 hA zB zB ?_ ?_ ?_
       iterate 2 (case _=>(first|exact yU BH2|refine yR BH2 ?_))
       repeat (first|refine zR (ja8 @unO.eq_1 @unR.eq_1 @rdR.eq_1 @Zaa @okI.eq_1 @Zd4.eq_1 @Zd4.eq_2 (ja3 @Zbi.eq_1 @Zbi.eq_2 @d3)) ?_|exact zU (ja8 @unO.eq_1 @unR.eq_1 @rdR.eq_1 @Zaa @okI.eq_1 @Zd4.eq_1 @Zd4.eq_2 (ja3 @Zbi.eq_1 @Zbi.eq_2 @d3)))
       omega
      have d17:decide ((sy:Int)=17)=false:=decide_eq_false zO
      by_cases e18:sy=18
      ·subst e18
       obtain rfl:V=0:=hV
       obtain rfl:N=11:=hN1
       obtain rfl:Bt=7:=hBt
       repeat (first|refine zR BH5 ?_|exact zU BH5)
       refine Zab [(1001,0)] 2000 hN zB zB ?_ ?_ ?_
       iterate 2 (case _=>(first|exact yU BH1|refine yR BH1 ?_))
       repeat (first|refine zR BH6 ?_|exact zU BH6)
       refine Zab [(1000,0),(1001,0),(1002,0)] 3000 hA zB zB ?_ ?_ ?_
       iterate 2 (case _=>(first|exact yU BH2|refine yR BH2 ?_))
       repeat (first|refine zR (ja8 @unO.eq_1 @unR.eq_1 @rdR.eq_1 @Zaa @okI.eq_1 @Zd4.eq_1 @Zd4.eq_2 (ja3 @Zbi.eq_1 @Zbi.eq_2 @d3)) ?_|exact zU (ja8 @unO.eq_1 @unR.eq_1 @rdR.eq_1 @Zaa @okI.eq_1 @Zd4.eq_1 @Zd4.eq_2 (ja3 @Zbi.eq_1 @Zbi.eq_2 @d3)))
       omega
      have d18:decide ((sy:Int)=18)=false:=decide_eq_false zO
      obtain rfl:V=sy:=by rw [hV,lsV,if_neg e16,if_neg zO]
      obtain rfl:N=1:=by rw [hN1,lsN,if_neg zO,if_neg e18]
      obtain rfl:Bt=0:=by rw [hBt,lsB,if_neg e16,if_neg e17,if_neg e18]
      exfalso
      omega
     ·rw [if_neg c3] at hx
      have d3:decide ((n:Int)-(l.length:Int)<(a:Int))=false:=decide_eq_false zO
      have hRp:=ZbM V a zO zO
      have hX:(l++List.replicate a V).length=l.length+a:=by simp
      have hem:((List.replicate a V).map nA).isEmpty=false:=by
       obtain ⟨a,rfl⟩:∃ k,a=k+1:=⟨a-1,by omega⟩
       rfl
      have hXl:(List.replicate a V).length=a:=List.length_replicate
      have h18:∀ y∈l++List.replicate a V,y≤18:=by
       intro y hy
       rcases List.mem_append.1 hy with hy | hy
       ·exact hl18 y hy
       ·rw [(List.mem_replicate.1 hy).2];exact hV18
      have hn0':nl0 (l.length+a)=false:=ZrG zO
      obtain ⟨X,hXd⟩:∃ X,X=List.replicate a V:=⟨_,rfl⟩
      rw [←hXd] at hRp hx hX hem hXl h18
      by_cases e16:sy=16
      ·subst e16
       have hl0:0<l.length:=List.length_pos_iff.2 fun h=>c16 ⟨rfl,h⟩
       have dl:decide ((l.length:Int)=0)=false:=decide_eq_false zO
       obtain ⟨z,hz⟩:∃ z,z=l.length-1:=⟨_,rfl⟩
       have ez:(l.length:Int)-1=(z:Int):=zO
       have hVz:l.getD z 0=V:=by rw [hV,hz];rfl
       obtain rfl:N=3:=hN1
       obtain rfl:Bt=2:=hBt
       repeat (first|refine zR BH5 ?_|exact zU BH5)
       refine Zab [(1001,0)] 2000 hN zB zB ?_ ?_ ?_
       iterate 2 (case _=>(first|exact yU BH1|refine yR BH1 ?_))
       repeat (first|refine zR (ja6 @unR.eq_1 @rdR.eq_1 @dl @ez iR @hVz) ?_|exact zU (ja6 @unR.eq_1 @rdR.eq_1 @dl @ez iR @hVz))
       refine Zab [(1000,0),(1001,0),(1002,0)] 3000 hA zB zB ?_ ?_ ?_
       iterate 2 (case _=>(first|exact yU BH2|refine yR BH2 ?_))
       repeat (first|refine zR (ja6 @unO.eq_1 @unR.eq_1 @rdR.eq_1 @Zaa @okI.eq_1 @d3) ?_|exact zU (ja6 @unO.eq_1 @unR.eq_1 @rdR.eq_1 @Zaa @okI.eq_1 @d3))
       refine ZkK 65 (c+100+40) (nl:=false) (cells:=[nA V]) [.sl false none [.sc (.int .i64 (V:Int))],int (a:Int)] _ (yU @nA.eq_1) (yU @nA.eq_1) ?_ yT hRp ?_
       ·(first|exact yU BH13|refine yR BH13 ?_)
       repeat (first|refine zR (ja4 @hX @hXl @hem @Bool.and_false) ?_|exact zU (ja4 @hX @hXl @hem @Bool.and_false))
       refine At.of (f,l++X,j,c+100+40+1,c+100+40+2) ⟨hx,hj,by simp only;omega,by simp only;omega,h18,by simp only;omega⟩ (by simp only;omega) rfl rfl ?_ ?_ ?_
       ·simp only;omega
       iterate 2 (case _=>(first|exact yU (ja6 @ZgG.eq_1 @hX @hXl @unR.eq_1 @rdR.eq_1 @hn0')|refine yR (ja6 @ZgG.eq_1 @hX @hXl @unR.eq_1 @rdR.eq_1 @hn0') ?_))
      have d16:decide ((sy:Int)=16)=false:=decide_eq_false zO
      by_cases e17:sy=17
      ·subst e17
       obtain rfl:V=0:=hV
       obtain rfl:N=3:=hN1
       obtain rfl:Bt=3:=hBt
       repeat (first|refine zR BH5 ?_|exact zU BH5)
       refine Zab [(1001,0)] 2000 hN zB zB ?_ ?_ ?_
       iterate 2 (case _=>(first|exact yU BH1|refine yR BH1 ?_))
       repeat (first|refine zR BH6 ?_|exact zU BH6)
       refine Zab [(1000,0),(1001,0),(1002,0)] 3000 hA zB zB ?_ ?_ ?_
       iterate 2 (case _=>(first|exact yU BH2|refine yR BH2 ?_))
       repeat (first|refine zR (ja6 @unO.eq_1 @unR.eq_1 @rdR.eq_1 @Zaa @okI.eq_1 @d3) ?_|exact zU (ja6 @unO.eq_1 @unR.eq_1 @rdR.eq_1 @Zaa @okI.eq_1 @d3))
       refine ZkK 65 (c+100+40) (nl:=false) (cells:=[.sc (.int .i64 0)]) [.sl false none [.sc (.int .i64 ((0:Nat):Int))],int (a:Int)] _ (yU @nA.eq_1) (yU @nA.eq_1) ?_ yT hRp ?_
       ·(first|exact yU BH13|refine yR BH13 ?_)
       repeat (first|refine zR (ja4 @hX @hXl @hem @Bool.and_false) ?_|exact zU (ja4 @hX @hXl @hem @Bool.and_false))
       refine At.of (f,l++X,j,c+100+40+1,c+100+40+2) ⟨hx,hj,by simp only;omega,by simp only;omega,h18,by simp only;omega⟩ (by simp only;omega) rfl rfl ?_ ?_ ?_
       ·simp only;omega
       iterate 2 (case _=>(first|exact yU (ja6 @ZgG.eq_1 @hX @hXl @unR.eq_1 @rdR.eq_1 @hn0')|refine yR (ja6 @ZgG.eq_1 @hX @hXl @unR.eq_1 @rdR.eq_1 @hn0') ?_))
      have d17:decide ((sy:Int)=17)=false:=decide_eq_false zO
      by_cases e18:sy=18
      ·subst e18
       obtain rfl:V=0:=hV
       obtain rfl:N=11:=hN1
       obtain rfl:Bt=7:=hBt
       repeat (first|refine zR BH5 ?_|exact zU BH5)
       refine Zab [(1001,0)] 2000 hN zB zB ?_ ?_ ?_
       iterate 2 (case _=>(first|exact yU BH1|refine yR BH1 ?_))
       repeat (first|refine zR BH6 ?_|exact zU BH6)
       refine Zab [(1000,0),(1001,0),(1002,0)] 3000 hA zB zB ?_ ?_ ?_
       iterate 2 (case _=>(first|exact yU BH2|refine yR BH2 ?_))
       repeat (first|refine zR (ja6 @unO.eq_1 @unR.eq_1 @rdR.eq_1 @Zaa @okI.eq_1 @d3) ?_|exact zU (ja6 @unO.eq_1 @unR.eq_1 @rdR.eq_1 @Zaa @okI.eq_1 @d3))
       refine ZkK 65 (c+100+40) (nl:=false) (cells:=[.sc (.int .i64 0)]) [.sl false none [.sc (.int .i64 ((0:Nat):Int))],int (a:Int)] _ (yU @nA.eq_1) (yU @nA.eq_1) ?_ yT hRp ?_
       ·(first|exact yU BH13|refine yR BH13 ?_)
       repeat (first|refine zR (ja4 @hX @hXl @hem @Bool.and_false) ?_|exact zU (ja4 @hX @hXl @hem @Bool.and_false))
       refine At.of (f,l++X,j,c+100+40+1,c+100+40+2) ⟨hx,hj,by simp only;omega,by simp only;omega,h18,by simp only;omega⟩ (by simp only;omega) rfl rfl ?_ ?_ ?_
       ·simp only;omega
       iterate 2 (case _=>(first|exact yU (ja6 @ZgG.eq_1 @hX @hXl @unR.eq_1 @rdR.eq_1 @hn0')|refine yR (ja6 @ZgG.eq_1 @hX @hXl @unR.eq_1 @rdR.eq_1 @hn0') ?_))
      have d18:decide ((sy:Int)=18)=false:=decide_eq_false zO
      obtain rfl:V=sy:=by rw [hV,lsV,if_neg e16,if_neg zO]
      obtain rfl:N=1:=by rw [hN1,lsN,if_neg zO,if_neg e18]
      obtain rfl:Bt=0:=by rw [hBt,lsB,if_neg e16,if_neg e17,if_neg e18]
      repeat (first|refine zR BH5 ?_|exact zU BH5)
      refine Zab [(1001,0)] 2000 hN zB zB ?_ ?_ ?_
      iterate 2 (case _=>(first|exact yU BH1|refine yR BH1 ?_))
      repeat (first|refine zR (ja5 @unR.eq_1 @rdR.eq_1 @d16 @d17 @d18) ?_|exact zU (ja5 @unR.eq_1 @rdR.eq_1 @d16 @d17 @d18))
      refine Zab [(1000,0),(1001,0),(1002,0)] 3000 hA zB zB ?_ ?_ ?_
      iterate 2 (case _=>(first|exact yU BH2|refine yR BH2 ?_))
      repeat (first|refine zR (ja6 @unO.eq_1 @unR.eq_1 @rdR.eq_1 @Zaa @okI.eq_1 @d3) ?_|exact zU (ja6 @unO.eq_1 @unR.eq_1 @rdR.eq_1 @Zaa @okI.eq_1 @d3))
      refine ZkK 65 (c+100+40) (nl:=false) (cells:=[nA V]) [.sl false none [.sc (.int .i64 (V:Int))],int (a:Int)] _ (yU @nA.eq_1) (yU @nA.eq_1) ?_ yT hRp ?_
      ·(first|exact yU BH13|refine yR BH13 ?_)
      repeat (first|refine zR (ja4 @hX @hXl @hem @Bool.and_false) ?_|exact zU (ja4 @hX @hXl @hem @Bool.and_false))
      refine At.of (f,l++X,j,c+100+40+1,c+100+40+2) ⟨hx,hj,by simp only;omega,by simp only;omega,h18,by simp only;omega⟩ (by simp only;omega) rfl rfl ?_ ?_ ?_
      ·simp only;omega
      iterate 2 (case _=>(first|exact yU (ja6 @ZgG.eq_1 @hX @hXl @unR.eq_1 @rdR.eq_1 @hn0')|refine yR (ja6 @ZgG.eq_1 @hX @hXl @unR.eq_1 @rdR.eq_1 @hn0') ?_))
  ·simp only [Zwt,if_neg c2,BR.bnd] at hx
   have de:decide ((e:Int)=0)=false:=decide_eq_false zO
   subst hx
   repeat (first|refine zR BH5 ?_|exact zU BH5)
   refine Zab [(1001,0)] 2000 hN zB zB ?_ ?_ ?_
   iterate 2 (case _=>(first|exact yU BH1|refine yR BH1 ?_))
   repeat (first|refine zR (ja5 @Zd4.eq_1 @Zd4.eq_2 @Zbi.eq_1 @Zbi.eq_2 @de) ?_|exact zU (ja5 @Zd4.eq_1 @Zd4.eq_2 @Zbi.eq_1 @Zbi.eq_2 @de))
   omega
 ·simp only [decide_eq_false_iff_not] at h
  have hle:n≤l.length:=zO
  rw [if_pos hle] at hx
  simp only [BT.run] at hx
  subst hx
  have hn1:nl0 l.length=false:=Zci zO
  have htk:l.take l.length=l:=List.take_length
  refine SWp.frzo 8 g (nl:=false) (cells:=l.map nA) (yU @hn1) Zaj ?_
  refine SWp.le (Zal (N:=70) (gc:=c) (l:=[(8,.sl false none (l.map nA))]) (h:=[(1000,0,.row false (unR t most 0 out.length)),(1001,0,.row false (rdR nl b p)),(1002,0,.row (nl0 out.length) (out.map u8))]) rfl ?_ ?_ ?_) ?_
  ·exact Nat.le_refl _
  iterate 2 (case _=>(first|exact yU (ja7 fR iR @htk @unR.eq_1 @rdR.eq_1 @Zwy @false_and)|refine yR (ja7 fR iR @htk @unR.eq_1 @rdR.eq_1 @Zwy @false_and) ?_))
  repeat (first|refine zR BH28 ?_|exact zU BH28)
  omega
theorem ZzA {b:List UInt8} {th:List Nat} {n:Nat} (hth:th.length=19):∀ (f:Nat) (l:List Nat) (i:Nat) (ls:List Nat) (j:Nat),l.length≤n→(∀ y∈l,y≤15)→i≤8*b.length→(lsT th n f l).run (Zae b) i = .ok ls j→ls.length=n∧∀ y∈ls,y≤15:=by
 intro f
 induction f with
 | zero=>intro l i ls j _ _ _ h;simp [lsT,BT.run] at h
 | succ f ih =>
  intro l i ls j hl h15 hi h
  rw [lsT] at h
  by_cases c:n≤l.length
  ·rw [if_pos c] at h
   simp only [BT.run,BR.ok.injEq] at h
   obtain ⟨rfl,rfl⟩:=h
   exact ⟨by omega,h15⟩
  ·rw [if_neg c,Zak] at h
   have hrn:=ZmD (l:=th) (B:=Zae b) (i:=i)
   have hsy:=Zin (l:=th) (B:=(Zae b).drop i) 15 0 0
   cases h1:(ZuI th 15 0 0).run (Zae b) i with
   | no e=>rw [h1] at h;cases h
   | ok s k =>
    rw [h1] at h
    have hk:=(Zhb h1).2 (by rw [Zad];exact hi)
    rw [Zad] at hk
    rw [h1,Zwt] at hrn
    split at hrn
    ·rename_i e0
     simp only [BR.ok.injEq] at hrn
     have hs:=(hsy e0).1
     rw [←hrn.1,hth] at hs
     simp only [BR.bnd] at h
     by_cases c2:s=16∧l=[]
     ·rw [if_pos c2] at h;simp [BT.run] at h
     ·rw [if_neg c2,Zak] at h
      cases h2:(ZeO (lsN s) (lsB s)).run (Zae b) k with
      | no e=>rw [h2] at h;cases h
      | ok t k2 =>
       rw [h2] at h
       have hk2:=(Zhb h2).2 (by rw [Zad];exact hk)
       rw [Zad] at hk2
       simp only [BR.bnd] at h
       by_cases c3:n<l.length+t
       ·rw [if_pos c3] at h;simp [BT.run] at h
       ·rw [if_neg c3] at h
        refine ih _ _ _ _ (by rw [List.length_append,List.length_replicate];omega) ?_ hk2 h
        intro y hy
        rcases List.mem_append.1 hy with hy | hy
        ·exact h15 y hy
        ·rw [(List.mem_replicate.1 hy).2]
         unfold lsV
         split
         ·rename_i e16
          have hne:l≠[]:=fun h=>c2 ⟨e16,h⟩
          have h0:l.length-1<l.length:=by have:=List.length_pos_iff.2 hne;omega
          have:l.getD (l.length-1) 0=l[l.length-1]:=by simp [List.getD,List.getElem?_eq_getElem h0]
          rw [this];exact h15 _ (List.getElem_mem h0)
         ·split
          ·omega
          ·omega
    ·cases hrn
theorem ZwQ {b:List UInt8} {n i j:Nat} {th:List Nat} (hi:i≤8*b.length) (h:(ZuL n).run (Zae b) i = .ok th j):th.length=19∧fulN th=true:=by
 rw [ZuL,Zak] at h
 cases h1:(Zox n 0 (List.replicate 19 0)).run (Zae b) i with
 | no e=>rw [h1] at h;cases h
 | ok t k =>
  rw [h1] at h
  simp only [BR.bnd] at h
  have h2:=ZwP n 0 i k _ t zB zB hi h1
  by_cases c:fulN t=true
  ·rw [if_pos c] at h
   simp only [BT.run,BR.ok.injEq] at h
   rw [←h.1]
   exact ⟨h2.1,c⟩
  ·rw [if_neg c] at h;simp [BT.run] at h
theorem ZwR {l d:List Nat} (h:Zsp l d=true):l.length≤320∧Zas l≤32768∧Zas d≤32768:=by
 simp only [Zsp,Bool.and_eq_true] at h
 have h2:=h.1.2
 simp only [fulN,decide_eq_true_eq] at h2
 exact ⟨h2.1,by omega,ZnL h.2⟩
theorem ZBd {b:List UInt8} {i j:Nat} {p:List Nat × List Nat} (hi:i≤8*b.length) (h:Zrw.run (Zae b) i = .ok p j):p.1.length≤320∧Zas p.1≤32768∧p.2.length≤320∧Zas p.2≤32768:=by
 rw [Zrw,Zak,Zdq hi] at h
 split at h
 ·rename_i c1
  simp only [BR.bnd] at h
  split at h
  ·simp [BT.run] at h
  ·rename_i c2
   rw [Zak] at h
   cases h1:(ZuL (ZaG b i 14 / 1024+4)).run (Zae b) (i+14) with
   | no e=>rw [h1] at h;cases h
   | ok th k =>
    rw [h1] at h
    have hk:=(Zhb h1).2 (by rw [Zad];exact c1)
    rw [Zad] at hk
    simp only [BR.bnd] at h
    rw [Zak] at h
    cases h2:(lsT th (ZaG b i 14 % 32+257+(ZaG b i 14 / 32 % 32+1)) 400 []).run (Zae b) k with
    | no e=>rw [h2] at h;cases h
    | ok ls k2 =>
     rw [h2] at h
     have hls:=ZzA (ZwQ c1 h1).1 400 [] k ls k2 (Nat.zero_le _) zB hk h2
     simp only [BR.bnd] at h
     split at h
     ·rename_i c3
      simp only [BT.run,BR.ok.injEq] at h
      obtain ⟨rfl,-⟩:=h
      have:=ZwR c3
      refine ⟨this.1,this.2.1,?_,this.2.2⟩
      rw [List.length_drop];omega
     ·simp [BT.run] at h
 ·cases h
def BH14:=ja8 @unR.eq_1 @rdR.eq_1 @Zd4.eq_1 @Zd4.eq_2 @Zd2.eq_1 @Zd2.eq_2 @Zbi.eq_1 (ja4 @Zbi.eq_2 @unO.eq_1 @Zaa iR)
def BH29:=ja8 @unR.eq_1 @rdR.eq_1 @Zd2.eq_1 @Zd2.eq_2 @Zbi.eq_1 @Zbi.eq_2 @unO.eq_1 (ja2 @Zaa @ZlX)
def BH30:=ja5 @unI.eq_1 @unR.eq_1 @rdR.eq_1 @Zaa @ZlX
set_option maxHeartbeats 1000000 in
theorem ZmK [Tabs Tryz.prog] (ht:Tabs.tab Tryz.prog 1=some (Zim.map nA)) (t:Bool) (most:Nat) (nl:Bool) (b:List UInt8) (hb:b.length≤1000000) (i:Nat) (hi:i≤8*b.length) (out:List UInt8) (r:BR (List Nat × List Nat)) (hr:Zrw.run (Zae b) i=r) :
  HCon Tryz.prog Zb8 [.op 1000 0 0] (unI t most nl b i out) (Zd2 (fun p=>cds p.1 p.2) r) (Zbi t most nl b out r) 600000:=by
 refine HCon.of' mix Tryz.func47 rfl Tryz.ntmps47 Ze9 Zfa zB (by simp [AV.gl,AV.gl.glL,int]) Zem ?_
 unfold Zcd
 rw [Zrw,Zak,Zdq hi] at hr
 by_cases c1:i+14≤8*b.length
 ·rw [if_pos c1] at hr
  simp only [BR.bnd] at hr
  have hT:=Zdo nl b hb i hi 14 zO c1
  have hcl:=Zen (b:=b) (i:=i) (n:=14)
  obtain ⟨c,hc⟩:∃ c,c=ZaG b i 14:=⟨_,rfl⟩
  rw [←hc] at hT hr hcl
  obtain ⟨L,hL⟩:∃ L,L=c % 32+257:=⟨_,rfl⟩
  obtain ⟨D,hD⟩:∃ D,D=c / 32 % 32+1:=⟨_,rfl⟩
  obtain ⟨N,hN⟩:∃ N,N=c / 1024+4:=⟨_,rfl⟩
  rw [←hL,←hD,←hN] at hr
  have eL:((c % 32:Nat):Int)+257=(L:Int):=zO
  have eD:((c / 32 % 32:Nat):Int)+1=(D:Int):=zO
  have eN:((c / 1024:Nat):Int)+4=(N:Int):=zO
  repeat (first|refine zR BH9 ?_|exact zU BH9)
  refine Zab [(1001,0)] 2000 hT zB zB ?_ ?_ ?_
  iterate 2 (case _=>(first|exact yU @rdR.eq_1|refine yR @rdR.eq_1 ?_))
  by_cases c2:286<L∨30<D
  ·rw [if_pos c2] at hr
   simp only [BT.run] at hr
   subst hr
   by_cases c3:286<L
   ·have d3:decide ((286:Int)<(L:Int))=true:=decide_eq_true zO
    repeat (first|refine zR (ja8 @unR.eq_1 @rdR.eq_1 @eL @eD @d3 @Zd2.eq_1 @Zd2.eq_2 (ja2 @Zbi.eq_1 @Zbi.eq_2)) ?_|exact zU (ja8 @unR.eq_1 @rdR.eq_1 @eL @eD @d3 @Zd2.eq_1 @Zd2.eq_2 (ja2 @Zbi.eq_1 @Zbi.eq_2)))
   ·have d3:decide ((286:Int)<(L:Int))=false:=decide_eq_false zO
    have d4:decide ((30:Int)<(D:Int))=true:=decide_eq_true zO
    repeat (first|refine zR (ja8 @unR.eq_1 @rdR.eq_1 @eL @eD @d3 @d4 @Zd2.eq_1 (ja3 @Zd2.eq_2 @Zbi.eq_1 @Zbi.eq_2)) ?_|exact zU (ja8 @unR.eq_1 @rdR.eq_1 @eL @eD @d3 @d4 @Zd2.eq_1 (ja3 @Zd2.eq_2 @Zbi.eq_1 @Zbi.eq_2)))
  ·rw [if_neg c2,Zak] at hr
   have d3:decide ((286:Int)<(L:Int))=false:=decide_eq_false zO
   have d4:decide ((30:Int)<(D:Int))=false:=decide_eq_false zO
   repeat (first|refine zR (ja7 @unR.eq_1 @rdR.eq_1 @eL @eD @eN @d3 @d4) ?_|exact zU (ja7 @unR.eq_1 @rdR.eq_1 @eL @eD @eN @d3 @d4))
   have hTe:=ZpW ht t most nl b hb (i+14) c1 out N zO _ rfl
   have hTi:=fun a j (h:(ZuL N).run (Zae b) (i+14) = .ok a j)=>And.intro ((Zhb h).2 (by rw [Zad];exact c1)) (ZwQ c1 h)
   have hTs:=fun e (h:(ZuL N).run (Zae b) (i+14) = .no e)=>Zeo Zsr h
   obtain ⟨r1,hr1⟩:∃ r1,r1=(ZuL N).run (Zae b) (i+14):=⟨_,rfl⟩
   rw [←hr1] at hTe hTi hTs hr
   refine Zab [(1000,0),(1001,0),(1002,0)] 3000 hTe zB zB ?_ ?_ ?_
   iterate 2 (case _=>(first|exact yU BH2|refine yR BH2 ?_))
   cases r1 with
   | no e =>
    simp only [BR.bnd] at hr
    subst hr
    have he:=hTs e rfl
    have de:decide ((e:Int)=0)=false:=decide_eq_false zO
    repeat (first|refine zR (ja7 @unR.eq_1 @rdR.eq_1 @Zd2.eq_1 @Zd2.eq_2 @Zbi.eq_1 @Zbi.eq_2 @de) ?_|exact zU (ja7 @unR.eq_1 @rdR.eq_1 @Zd2.eq_1 @Zd2.eq_2 @Zbi.eq_1 @Zbi.eq_2 @de))
   | ok th j =>
    obtain ⟨hj,hth,hfu⟩:=hTi th j rfl
    rw [Zad] at hj
    simp only [BR.bnd] at hr
    rw [Zak] at hr
    have hK:Zas th≤32768:=by simp only [fulN,decide_eq_true_eq] at hfu;omega
    have hLs:=ZoL t most nl b hb j hj out th hth hK (L+D) zO zO _ rfl
    have hLi:=fun a q (h:(lsT th (L+D) 400 []).run (Zae b) j = .ok a q)=>ZzA hth 400 [] j a q (Nat.zero_le _) zB hj h
    have hLe:=fun e (h:(lsT th (L+D) 400 []).run (Zae b) j = .no e)=>Zeo (Zwv _ _) h
    obtain ⟨r2,hr2⟩:∃ r2,r2=(lsT th (L+D) 400 []).run (Zae b) j:=⟨_,rfl⟩
    rw [←hr2] at hLs hLi hLe hr
    repeat (first|refine zR BH29 ?_|exact zU BH29)
    refine Zab [(1000,0),(1001,0),(1002,0)] 4000 hLs zB zB ?_ ?_ ?_
    iterate 2 (case _=>(first|exact yU BH30|refine yR BH30 ?_))
    cases r2 with
    | no e =>
     simp only [BR.bnd] at hr
     subst hr
     have he:=hLe e rfl
     have de:decide ((e:Int)=0)=false:=decide_eq_false zO
     repeat (first|refine zR (ja8 @unR.eq_1 @rdR.eq_1 @Zd4.eq_1 @Zd4.eq_2 @Zd2.eq_1 @Zd2.eq_2 @Zbi.eq_1 (ja2 @Zbi.eq_2 @de)) ?_|exact zU (ja8 @unR.eq_1 @rdR.eq_1 @Zd4.eq_1 @Zd4.eq_2 @Zd2.eq_1 @Zd2.eq_2 @Zbi.eq_1 (ja2 @Zbi.eq_2 @de)))
    | ok ls q =>
     obtain ⟨hll,h15⟩:=hLi ls q rfl
     simp only [BR.bnd] at hr
     have hCo:=ZoK false false (ls.take L) (ls.drop L) (fun x hx=>h15 x (List.mem_of_mem_take hx)) (fun x hx=>h15 x (List.mem_of_mem_drop hx)) (by rw [List.length_take];omega) (by rw [List.length_take];omega) (by rw [List.length_drop];omega)
     have hLL:(L:Int)≤((ls.length:Nat):Int):=zO
     repeat (first|refine zR BH14 ?_|exact zU BH14)
     by_cases c5:Zsp (ls.take L) (ls.drop L)=true
     ·rw [if_pos c5] at hr hCo
      simp only [BT.run] at hr
      subst hr
      refine Zaq _ (.inl ⟨by simp only [AV.free,AV.free.freeL,Zaj,Bool.and_self],hCo⟩) ?_
      repeat (first|refine zR BH14 ?_|exact zU BH14)
      all_goals trace_state
     ·rw [if_neg c5] at hr hCo
      simp only [BT.run] at hr
      subst hr
      refine Zaq _ (.inl ⟨by simp only [AV.free,AV.free.freeL,Zaj,Bool.and_self],hCo⟩) ?_
      repeat (first|refine zR BH14 ?_|exact zU BH14)
 ·rw [if_neg c1] at hr
  simp only [BR.bnd] at hr
  subst hr
  have hT:=Zdw nl b hb i hi 14 (decide_eq_false zO)
  repeat (first|refine zR BH9 ?_|exact zU BH9)
  refine Zab [(1001,0)] 2000 hT zB zB ?_ ?_ ?_
  iterate 2 (case _=>(first|exact yU @rdR.eq_1|refine yR @rdR.eq_1 ?_))
  repeat (first|refine zR BH20 ?_|exact zU BH20)
theorem ZmL {b:List UInt8} {i m:Nat}:∀ {n:Nat},ZaG b i (m+n)=ZaG b i m+2^m*ZaG b (i+m) n
 | 0=>by simp [ZaG,Zfi]
 | n+1=>by
  rw [←Nat.add_assoc,Zk0,ZmL (n:=n),Zk0,Nat.mul_add,Nat.pow_add,Nat.mul_assoc]
  rw [show i+(m+n)=i+m+n by omega]
  omega
def K2 (most F L:Nat) (out:List UInt8) (ls:List Nat):BT (List UInt8):=if Zsp (ls.take L) (ls.drop L)=true then ZnG (ls.take L) (ls.drop L) most F out else .err 3
def K1 (most F L D:Nat) (out:List UInt8) (th:List Nat):BT (List UInt8):=if fulN th=true then (lsT th (L+D) 400 []).bnd (K2 most F L out) else .err 3
theorem ZBe {b:List UInt8} {most F i:Nat} {out:List UInt8} (hi:i≤8*b.length):(Zrw.bnd fun p=>ZnG p.1 p.2 most F out).run (Zae b) i =
  if i+14≤8*b.length then
   (if 286<ZaG b i 5+257∨30<ZaG b (i+5) 5+1 then .no 3 else ((Zox (ZaG b (i+5+5) 4+4) 0 (List.replicate 19 0)).bnd (K1 most F (ZaG b i 5+257) (ZaG b (i+5) 5+1) out)).run (Zae b) (i+5+5+4))
  else .no 2:=by
 rw [Zak,Zrw,Zak,Zdq hi]
 by_cases c1:i+14≤8*b.length
 ·rw [if_pos c1,if_pos c1]
  simp only [BR.bnd]
  have h14:ZaG b i 14=ZaG b i 5+32*(ZaG b (i+5) 5+32*ZaG b (i+5+5) 4):=by
   rw [show (14:Nat)=5+(5+4) from rfl,ZmL,ZmL]
  have h5:=Zen (b:=b) (i:=i) (n:=5)
  have h5':=Zen (b:=b) (i:=i+5) (n:=5)
  have eL:ZaG b i 14 % 32=ZaG b i 5:=zO
  have eD:ZaG b i 14 / 32 % 32=ZaG b (i+5) 5:=zO
  have eN:ZaG b i 14 / 1024=ZaG b (i+5+5) 4:=zO
  rw [eL,eD,eN]
  by_cases c2:286<ZaG b i 5+257∨30<ZaG b (i+5) 5+1
  ·rw [if_pos c2,if_pos c2];rfl
  ·rw [if_neg c2,if_neg c2,show i+5+5+4=i+14 by omega,Zak,Zak,ZuL,Zak]
   cases (Zox (ZaG b (i+5+5) 4+4) 0 (List.replicate 19 0)).run (Zae b) (i+14) with
   | no e=>rfl
   | ok th j =>
    simp only [BR.bnd,K1]
    by_cases c3:fulN th=true
    ·rw [if_pos c3,if_pos c3,Zak]
     simp only [BT.run,BR.bnd,Zak]
     cases (lsT th (ZaG b i 5+257+(ZaG b (i+5) 5+1)) 400 []).run (Zae b) j with
     | no e=>rfl
     | ok ls k =>
      simp only [BR.bnd,K2]
      by_cases c4:Zsp (ls.take (ZaG b i 5+257)) (ls.drop (ZaG b i 5+257))=true
      ·rw [if_pos c4,if_pos c4];rfl
      ·rw [if_neg c4,if_neg c4];rfl
    ·rw [if_neg c3,if_neg c3];rfl
 ·rw [if_neg c1,if_neg c1];rfl
def usd (l:List Nat):Nat:=l.foldl (fun n x=>if 0<x then n+1 else n) 0
def mst (l:List Nat):Nat:=l.foldl (fun n x=>if n<x then x else n) 0
theorem Zsz {l:List Nat} {x:Nat}:usd (l++[x])=if 0<x then usd l+1 else usd l:=by unfold usd;rw [List.foldl_append];rfl
theorem ZsA {l:List Nat} {x:Nat}:mst (l++[x])=if mst l<x then x else mst l:=by unfold mst;rw [List.foldl_append];rfl
theorem ZpX:∀ (n:Nat) (l:List Nat),l.length=n→usd l≤l.length∧usd l≤l.sum∧mst l≤l.sum∧l.sum≤usd l*mst l:=by
 intro n
 induction n with
 | zero=>intro l h;rw [List.length_eq_zero_iff.1 h];simp [usd,mst]
 | succ n ih =>
  intro l h
  have hne:l≠[]:=fun e=>by rw [e] at h;simp at h
  obtain ⟨m,x,rfl⟩:∃ m x,l=m++[x]:=⟨l.dropLast,l.getLast hne,(List.dropLast_concat_getLast hne).symm⟩
  rw [List.length_append,List.length_singleton] at h
  obtain ⟨h1,h2,h3,h4⟩:=ih m zO
  rw [Zsz,ZsA,List.sum_append,List.length_append,List.length_singleton]
  simp only [List.sum_cons,List.sum_nil,Nat.add_zero]
  by_cases c:0<x
  ·rw [if_pos c]
   by_cases c2:mst m<x
   ·rw [if_pos c2]
    have:=Nat.mul_le_mul_left (usd m) (Nat.le_of_lt c2)
    rw [Nat.add_mul]
    omega
   ·rw [if_neg c2,Nat.add_mul]
    omega
  ·rw [if_neg c,if_neg zO]
   omega
theorem ZBf {d:List Nat}:decide (d.sum≤1)=!(decide (1<usd d) || decide (1<mst d)):=by
 obtain ⟨_,h2,h3,h4⟩:=ZpX _ d rfl
 by_cases c:d.sum≤1
 ·rw [decide_eq_true c,decide_eq_false zO,decide_eq_false zO];rfl
 ·rw [decide_eq_false c]
  by_cases c2:1<usd d
  ·rw [decide_eq_true c2];rfl
  ·by_cases c3:1<mst d
   ·rw [decide_eq_true c3,Bool.or_true];rfl
   ·exfalso
    have:usd d*mst d≤1*1:=Nat.mul_le_mul zO zO
    omega
theorem ZhA {b:List UInt8} {n i e:Nat} (hn:n≤24) (hi:i≤8*b.length):(nuS (Zae b) n i e).1<2^n∧(nuS (Zae b) n i e).2.1≤8*b.length:=by
 refine ⟨ZwI Zdc,?_⟩
 unfold nuS
 split
 ·exact hi
 ·rw [Zad];split <;> simp only <;> omega
theorem ZwS {b:List UInt8} {most F i:Nat} {out:List UInt8} {r:BR (List UInt8)} (hi:i≤8*b.length) (hr:(Zrw.bnd fun p=>ZnG p.1 p.2 most F out).run (Zae b) i=r)
  {x p1 e1 y p2 e2 z p3 e3 e4:Nat} (h1:nuS (Zae b) 5 i 0=(x,p1,e1)) (h2:nuS (Zae b) 5 p1 e1=(y,p2,e2)) (h3:nuS (Zae b) 4 p2 e2=(z,p3,e3)) (h4:e4=if (286<x+257∨30<y+1)∧e3=0 then 3 else e3) :
  x<32∧y<32∧z<16∧p3≤8*b.length∧((e4=0∧x+257≤286∧y+1≤30∧((Zox (z+4) 0 (List.replicate 19 0)).bnd (K1 most F (x+257) (y+1) out)).run (Zae b) p3=r)∨(e4≠0∧r = .no e4)):=by
 have f1:=ZhA (b:=b) (n:=5) (i:=i) (e:=0) zO hi
 rw [h1] at f1
 have f2:=ZhA (b:=b) (n:=5) (i:=p1) (e:=e1) zO f1.2
 rw [h2] at f2
 have f3:=ZhA (b:=b) (n:=4) (i:=p2) (e:=e2) zO f2.2
 rw [h3] at f3
 simp only at f1 f2 f3
 refine ⟨by omega,by omega,by omega,f3.2,?_⟩
 rw [ZBe hi] at hr
 by_cases c1:i+5≤8*b.length
 ·rw [ZpQ c1] at h1
  simp only [Prod.mk.injEq] at h1
  obtain ⟨rfl,rfl,rfl⟩:=h1
  by_cases c2:i+5+5≤8*b.length
  ·rw [ZpQ c2] at h2
   simp only [Prod.mk.injEq] at h2
   obtain ⟨rfl,rfl,rfl⟩:=h2
   by_cases c3:i+5+5+4≤8*b.length
   ·rw [ZpQ c3] at h3
    simp only [Prod.mk.injEq] at h3
    obtain ⟨rfl,rfl,rfl⟩:=h3
    rw [if_pos zO] at hr
    by_cases c4:286<ZaG b i 5+257∨30<ZaG b (i+5) 5+1
    ·rw [if_pos c4] at hr
     rw [if_pos ⟨c4,rfl⟩] at h4
     exact .inr ⟨by omega,by rw [h4];exact hr.symm⟩
    ·rw [if_neg c4] at hr
     rw [if_neg (fun h=>c4 h.1)] at h4
     exact .inl ⟨h4,by omega,by omega,hr⟩
   ·rw [ZpR c3] at h3
    simp only [Prod.mk.injEq] at h3
    obtain ⟨rfl,rfl,rfl⟩:=h3
    rw [if_neg zO] at hr
    rw [if_neg (fun h=>by omega)] at h4
    exact .inr ⟨by omega,by rw [h4];exact hr.symm⟩
  ·rw [ZpR c2] at h2
   simp only [Prod.mk.injEq] at h2
   obtain ⟨rfl,rfl,rfl⟩:=h2
   rw [Zus zO] at h3
   simp only [Prod.mk.injEq] at h3
   obtain ⟨rfl,rfl,rfl⟩:=h3
   rw [if_neg zO] at hr
   rw [if_neg (fun h=>by omega)] at h4
   exact .inr ⟨by omega,by rw [h4];exact hr.symm⟩
 ·rw [ZpR c1] at h1
  simp only [Prod.mk.injEq] at h1
  obtain ⟨rfl,rfl,rfl⟩:=h1
  rw [Zus zO] at h2
  simp only [Prod.mk.injEq] at h2
  obtain ⟨rfl,rfl,rfl⟩:=h2
  rw [Zus zO] at h3
  simp only [Prod.mk.injEq] at h3
  obtain ⟨rfl,rfl,rfl⟩:=h3
  rw [if_neg zO] at hr
  rw [if_neg (fun h=>by omega)] at h4
  exact .inr ⟨by omega,by rw [h4];exact hr.symm⟩
theorem ZBg {B th:List Nat} {N f s p y n p2 e2 e3:Nat} {lens:List Nat} {K:List Nat→BT (List UInt8)} {r:BR (List UInt8)} (h16:¬ (s=16∧lens=[])) (hy:y=lsV s lens)
  (hp:(ZeO (lsN s) (lsB s)).run B p=if e2=0 then .ok n p2 else .no e2) (he3:e3=if N<lens.length+n∧e2=0 then 3 else e2)
  (hrun:((if s=16∧lens=[] then BT.err 3 else (ZeO (lsN s) (lsB s)).bnd fun t=>if N<lens.length+t then .err 3 else lsT th N f (lens++List.replicate t (lsV s lens))).run B p).bnd (fun a j=>(K a).run B j)=r) :
  (e3=0∧((lsT th N f (lens++List.replicate n y)).bnd K).run B p2=r∧lens.length+n≤N)∨(e3≠0∧r = .no e3):=by
 rw [if_neg h16,Zak,hp] at hrun
 by_cases c:e2=0
 ·rw [if_pos c] at hrun
  simp only [BR.bnd] at hrun
  by_cases c2:N<lens.length+n
  ·rw [if_pos c2] at hrun
   rw [if_pos ⟨c2,c⟩] at he3
   exact .inr ⟨by omega,by rw [he3];exact hrun.symm⟩
  ·rw [if_neg c2] at hrun
   rw [if_neg (fun q=>c2 q.1)] at he3
   refine .inl ⟨by omega,?_,by omega⟩
   rw [Zak,hy]
   exact hrun
 ·rw [if_neg c] at hrun
  rw [if_neg (fun q=>c q.2)] at he3
  exact .inr ⟨by omega,by rw [he3];exact hrun.symm⟩
theorem ZCN {s:Nat} {lens:List Nat} (hs:s<19) (h16:¬ (s=16∧lens=[])) (h15:∀ y∈lens,y≤15):lsV s lens≤15:=by
 unfold lsV
 split
 ·rename_i e16
  have hne:lens≠[]:=fun h=>h16 ⟨e16,h⟩
  have h0:lens.length-1<lens.length:=by have:=List.length_pos_iff.2 hne;omega
  have:lens.getD (lens.length-1) 0=lens[lens.length-1]:=by simp [List.getD,List.getElem?_eq_getElem h0]
  rw [this];exact h15 _ (List.getElem_mem h0)
 ·split
  ·omega
  ·omega
theorem ZBh {lens:List Nat} {n y:Nat} (hy:y≤15) (h15:∀ x∈lens,x≤15):∀ x∈lens++List.replicate n y,x≤15:=by
 intro x hx
 rcases List.mem_append.1 hx with hx | hx
 ·exact h15 x hx
 ·rw [(List.mem_replicate.1 hx).2];exact hy
def BH0:=ja4 @stI.eq_1 @stR.eq_1 iR @cdG.eq_1
def BH3:=ja3 @stO.eq_1 @stR.eq_1 iR
def BH7:=ja2 @stR.eq_1 iR
def BH31:=ja6 @Nat.sub_self @List.take_zero.{0} @usd.eq_1 @mst.eq_1 @List.foldl_nil.{0,0} @stR.eq_1
def BH32:=ja5 @ZaF.eq_1 @ZaF.eq_2 @stO.eq_1 @stR.eq_1 iR
set_option maxHeartbeats 8000000 in
theorem ZwT [Tabs Tryz.prog] (nb:Bool) (b:List UInt8) (hb:b.length≤40000) (most:Nat) (hm:most≤16777216) (i:Nat) (hi:i≤8*b.length) (out:List UInt8) (ho:out.length≤most) (F:Nat) (hF:8*b.length<F) (r:BR (List UInt8)) (hr:(Zrw.bnd fun p=>ZnG p.1 p.2 most F out).run (Zae b) i=r) :
  HCon Tryz.prog Zc1 [.op 1000 0 0] (stI nb (Zae b) most i 0 out) (.tup []) (ZaF (1000*F+500000) nb (Zae b) most r) (1000*F+500001):=by
 refine HCon.of' mix Tryz.func29 rfl Tryz.ntmps29 ZgA ZgB zB (by simp [AV.gl,AV.gl.glL]) ZpO ?_
 unfold Zc5
 have hBl:(Zae b).length=8*b.length:=Zad
 have hNum:=fun i e hi out n hn=>Zf2 nb (Zae b) (by rw [hBl];omega) Zdc most i e hi out n hn
 have fact:=fun {n i e:Nat} (hn:n≤24) (hi:i≤8*b.length)=>ZhA (b:=b) (e:=e) hn hi
 have ok:=fun {n i:Nat} (h:i+n≤8*b.length)=>ZpQ (b:=b) h
 have no:=fun {n i:Nat} (h:¬ i+n≤8*b.length)=>ZpR (b:=b) h
 have ke:=fun {n i e:Nat} (h:e≠0)=>Zus (B:=Zae b) (n:=n) (i:=i) h
 obtain ⟨⟨x,p1,e1⟩,h1⟩:∃ s,nuS (Zae b) 5 i 0=s:=⟨_,rfl⟩
 obtain ⟨⟨y,p2,e2⟩,h2⟩:∃ s,nuS (Zae b) 5 p1 e1=s:=⟨_,rfl⟩
 obtain ⟨⟨z,p3,e3⟩,h3⟩:∃ s,nuS (Zae b) 4 p2 e2=s:=⟨_,rfl⟩
 obtain ⟨e4,h4⟩:∃ e4,e4=if (286<x+257∨30<y+1)∧e3=0 then 3 else e3:=⟨_,rfl⟩
 obtain ⟨hx32,hy32,hz16,hp3,hinv⟩:=ZwS hi hr h1 h2 h3 h4
 have hrT:=fun {n i:Nat} (h:i≤8*b.length)=>Zdq (b:=b) (n:=n) h
 have hp1:p1≤8*b.length:=by have:=(fact (n:=5) (i:=i) (e:=0) zO hi).2;rw [h1] at this;exact this
 have hp2:p2≤8*b.length:=by have:=(fact (n:=5) (i:=p1) (e:=e1) zO hp1).2;rw [h2] at this;exact this
 have c1:=hNum i 0 zO out 5 zO
 have c2:=hNum p1 e1 zO out 5 zO
 have c3:=hNum p2 e2 zO out 4 zO
 rw [h1] at c1
 rw [h2] at c2
 rw [h3] at c3
 have c4:=Za7 nb (Zae b) most p3 e3 out (decide (286<x+257∨30<y+1)) 3
 have hee:(if decide (286<x+257∨30<y+1)=true∧e3=0 then 3 else e3)=e4:=by rw [h4];simp only [decide_eq_true_eq]
 rw [hee] at c4
 clear h1 h2 h3 h4 hee hr
 obtain ⟨L,hL⟩:∃ L,L=x+257:=⟨_,rfl⟩
 obtain ⟨D,hD⟩:∃ D,D=y+1:=⟨_,rfl⟩
 obtain ⟨N,hN⟩:∃ N,N=z+4:=⟨_,rfl⟩
 have eL:(x:Int)+257=(L:Int):=zO
 have eD:(y:Int)+1=(D:Int):=zO
 have eN:(z:Int)+4=(N:Int):=zO
 rw [←hL,←hD,←hN] at hinv
 rw [←hL,←hD] at c4
 have hB2:=Zdc (l:=b)
 obtain ⟨B,hB⟩:∃ B,B=Zae b:=⟨_,rfl⟩
 rw [←hB] at hBl hB2
 simp only [←hB] at hNum fact ok no ke c1 c2 c3 c4 hinv hrT ⊢
 have q1:decide ((286:Int)<(L:Int))=decide (286<L):=decide_eq_decide.2 zO
 have q2:decide ((30:Int)<(D:Int))=decide (30<D):=decide_eq_decide.2 zO
 obtain ⟨TT,hTT⟩:∃ TT,TT=Zim:=⟨_,rfl⟩
 have hTl:TT.length=19:=by rw [hTT];rfl
 have hTx:∀ k,k<19→TT.getD k 0<19:=by rw [hTT];exact Zsy
 have hTe:[AV.sc (.int .i64 16),.sc (.int .i64 17),.sc (.int .i64 18),.sc (.int .i64 0),.sc (.int .i64 8),.sc (.int .i64 7),.sc (.int .i64 9),.sc (.int .i64 6),.sc (.int .i64 10),.sc (.int .i64 5),.sc (.int .i64 11),.sc (.int .i64 4),.sc (.int .i64 12),.sc (.int .i64 3),.sc (.int .i64 13),.sc (.int .i64 2),.sc (.int .i64 14),.sc (.int .i64 1),.sc (.int .i64 15)]=TT.map nA:=by rw [hTT];rfl
 have ptm:=ZcF 0 19 zO
 obtain ⟨Z,hZ⟩:∃ Z:List Nat,Z=List.replicate 19 0:=⟨_,rfl⟩
 have hZl:Z.length=19:=by rw [hZ];rfl
 have hZ7:∀ x∈Z,x≤7:=by rw [hZ];simp
 rw [←hZ] at ptm hinv
 have hl0:nl0 19=false:=rfl
 rw [hl0] at ptm
 refine SWp.to (F:=mk 190 2 [(0,.op 1000 0 0),(2,int (L:Int))] [(1000,0,.row false (stR nb B most 0 out.length p1 e1)),(1001,0,.row (nl0 out.length) (out.map u8))]) ?_ ?_
 ·repeat (first|refine zS ?_|exact zT)
  refine Zab [(1000,0),(1001,0)] 2000 c1 zB zB ?_ ?_ ?_
  iterate 2 (case _=>(first|exact yU BH0|refine yR BH0 ?_))
  repeat (first|refine zR (ja4 @stO.eq_1 @stR.eq_1 iR @eL) ?_|exact zU (ja4 @stO.eq_1 @stR.eq_1 iR @eL))
  exact Zal rfl (Nat.le_refl _) yT (yU BH7)
 refine SWp.to (F:=mk 190 3 [(0,.op 1000 0 0),(2,int (L:Int)),(3,int (D:Int))] [(1000,0,.row false (stR nb B most 0 out.length p2 e2)),(1001,0,.row (nl0 out.length) (out.map u8))]) ?_ ?_
 ·repeat (first|refine zS ?_|exact zT)
  refine Zab [(1000,0),(1001,0)] 3000 c2 zB zB ?_ ?_ ?_
  iterate 2 (case _=>(first|exact yU BH0|refine yR BH0 ?_))
  repeat (first|refine zR (ja4 @stO.eq_1 @stR.eq_1 iR @eD) ?_|exact zU (ja4 @stO.eq_1 @stR.eq_1 iR @eD))
  exact Zal rfl (Nat.le_refl _) yT (yU BH7)
 refine SWp.to (F:=mk 190 4 [(0,.op 1000 0 0),(2,int (L:Int)),(3,int (D:Int)),(4,int (N:Int))] [(1000,0,.row false (stR nb B most 0 out.length p3 e3)),(1001,0,.row (nl0 out.length) (out.map u8))]) ?_ ?_
 ·repeat (first|refine zS ?_|exact zT)
  refine Zab [(1000,0),(1001,0)] 4000 c3 zB zB ?_ ?_ ?_
  iterate 2 (case _=>(first|exact yU BH0|refine yR BH0 ?_))
  repeat (first|refine zR (ja4 @stO.eq_1 @stR.eq_1 iR @eN) ?_|exact zU (ja4 @stO.eq_1 @stR.eq_1 iR @eN))
  exact Zal rfl (Nat.le_refl _) yT (yU BH7)
 refine SWp.to (F:=mk 190 5 [(0,.op 1000 0 0),(2,int (L:Int)),(3,int (D:Int)),(4,int (N:Int))] [(1000,0,.row false (stR nb B most 0 out.length p3 e4)),(1001,0,.row (nl0 out.length) (out.map u8))]) ?_ ?_
 ·by_cases k1:286<L
  ·have d1:decide ((286:Int)<(L:Int))=true:=decide_eq_true zO
   rw [decide_eq_true (show 286<L∨30<D from .inl k1)] at c4
   repeat (first|refine zR @d1 ?_|exact zU @d1)
   refine Zab [(1000,0),(1001,0)] 5000 c4 zB zB ?_ ?_ ?_
   iterate 2 (case _=>(first|exact yU BH0|refine yR BH0 ?_))
   (first|exact yU BH3|refine yR BH3 ?_)
   exact Zal rfl (Nat.le_refl _) yT (yU BH7)
  ·have d1:decide ((286:Int)<(L:Int))=false:=decide_eq_false zO
   by_cases k2:30<D
   ·have d2:decide ((30:Int)<(D:Int))=true:=decide_eq_true zO
    rw [decide_eq_true (show 286<L∨30<D from .inr k2)] at c4
    repeat (first|refine zR (ja2 @d1 @d2) ?_|exact zU (ja2 @d1 @d2))
    refine Zab [(1000,0),(1001,0)] 5000 c4 zB zB ?_ ?_ ?_
    iterate 2 (case _=>(first|exact yU BH0|refine yR BH0 ?_))
    (first|exact yU BH3|refine yR BH3 ?_)
    exact Zal rfl (Nat.le_refl _) yT (yU BH7)
   ·have d2:decide ((30:Int)<(D:Int))=false:=decide_eq_false zO
    rw [decide_eq_false (show ¬ (286<L∨30<D) by omega)] at c4
    repeat (first|refine zR (ja2 @d1 @d2) ?_|exact zU (ja2 @d1 @d2))
    refine Zab [(1000,0),(1001,0)] 5000 c4 zB zB ?_ ?_ ?_
    iterate 2 (case _=>(first|exact yU BH0|refine yR BH0 ?_))
    (first|exact yU BH3|refine yR BH3 ?_)
    exact Zal rfl (Nat.le_refl _) yT (yU BH7)
 clear c1 c2 c3 c4 q1 q2 hp1 hp2
 repeat (first|refine zS ?_|exact zT)
 refine Zab [] 4000 ptm zB zB ?_ ?_ ?_
 iterate 2 (case _=>(first|exact yT|refine yS ?_))
 repeat (first|refine zR @hTe ?_|exact zU @hTe)
 refine SWp.loop (α:=Nat × List Nat × Nat × Nat) (fun x=>mk 190 (29+x.1) [(0,.op 1000 0 0),(2,int (L:Int)),(3,int (D:Int)),(4,int (N:Int)),(5,.own 33 5 none 0 19),(6,.own 4005 28 none 0 19),(7,int (x.1:Int))] [(1000,0,.row false (stR nb B most 0 out.length x.2.2.1 x.2.2.2)),(1001,0,.row (nl0 out.length) (out.map u8)),(33,5,.row false (TT.map nA)),(4005,28,.row false (x.2.1.map nA))])
  (fun x=>x.1≤N∧x.2.1.length=19∧(∀ y∈x.2.1,y≤7)∧x.2.2.1≤8*b.length∧((x.2.2.2=0∧L≤286∧D≤30∧((Zox (N-x.1) x.1 x.2.1).bnd (K1 most F L D out)).run B x.2.2.1=r)∨(x.2.2.2≠0∧r = .no x.2.2.2))) (fun x=>N-x.1) (0,Z,p3,e4) ⟨Nat.zero_le _,hZl,hZ7,hp3,hinv⟩ (Zal rfl ?_ ?_ ?_) ?_
 ·exact Nat.le_refl _
 iterate 2 (case _=>(first|exact yU BH7|refine yR BH7 ?_))
 clear hinv
 rintro ⟨k,th,at0,e⟩ ⟨hk,hthl,hth7,hat,hinv⟩ -
 simp only at hk hthl hth7 hat hinv
 repeat (first|refine zS ?_|exact zT)
 refine SWp.cond rfl (fun h=>?_) (fun h=>?_)
 ·simp only [decide_eq_true_eq] at h
  have c1:=hNum at0 e zO out 3 zO
  have f1:=fact (n:=3) (i:=at0) (e:=e) zO hat
  obtain ⟨f,hf⟩:∃ f,N-k=f+1:=⟨N-k-1,by omega⟩
  rw [hf] at hinv
  obtain ⟨⟨v,at1,e1⟩,hv⟩:∃ s,nuS B 3 at0 e=s:=⟨_,rfl⟩
  rw [hv] at c1 f1
  simp only at f1
  have hw:=hTx k zO
  obtain ⟨w,hwd⟩:∃ w,w=TT.getD k 0:=⟨_,rfl⟩
  have hinv2:(e1=0∧L≤286∧D≤30∧((Zox f (k+1) (th.set w v)).bnd (K1 most F L D out)).run B at1=r)∨(e1≠0∧r = .no e1):=by
   rcases hinv with ⟨rfl,hL6,hD0,hrun⟩ | ⟨he,hr⟩
   ·rw [Zox,Zak,Zak,hrT hat] at hrun
    by_cases q:at0+3≤8*b.length
    ·rw [ok q] at hv
     simp only [Prod.mk.injEq] at hv
     obtain ⟨rfl,rfl,rfl⟩:=hv
     rw [if_pos q] at hrun
     rw [hwd,hTT]
     exact .inl ⟨rfl,hL6,hD0,by rw [Zak];exact hrun⟩
    ·rw [no q] at hv
     simp only [Prod.mk.injEq] at hv
     obtain ⟨rfl,rfl,rfl⟩:=hv
     rw [if_neg q] at hrun
     exact .inr ⟨by omega,hrun.symm⟩
   ·rw [ke he] at hv
    simp only [Prod.mk.injEq] at hv
    obtain ⟨rfl,rfl,rfl⟩:=hv
    exact .inr ⟨he,hr⟩
  rw [←hwd] at hw
  have hsp:=ZeG (l:=th) (k:=w) (x:=v) zO
  repeat (first|refine zR (ja3 @stR.eq_1 iR hwd.symm) ?_|exact zU (ja3 @stR.eq_1 iR hwd.symm))
  refine Zab [(1000,0),(1001,0)] 6000 c1 zB zB ?_ ?_ ?_
  iterate 2 (case _=>(first|exact yU BH0|refine yR BH0 ?_))
  repeat (first|refine zR (ja6 @stO.eq_1 @stR.eq_1 iR hwd.symm @hTl @hthl) ?_|exact zU (ja6 @stO.eq_1 @stR.eq_1 iR hwd.symm @hTl @hthl))
  refine At.of (k+1,th.set w v,at1,e1) ⟨by simp only;omega,by simp only [List.length_set];exact hthl,?_,f1.2,by simp only;rw [show N-(k+1)=f by omega];exact hinv2⟩ (by simp only;omega) rfl rfl ?_ ?_ ?_
  ·intro y hy
   rcases List.mem_or_eq_of_mem_set hy with hy | rfl
   ·exact hth7 y hy
   ·omega
  ·simp only;omega
  iterate 2 (case _=>(first|exact yU (ja3 @stR.eq_1 iR @hsp)|refine yR (ja3 @stR.eq_1 iR @hsp) ?_))
 simp only [decide_eq_false_iff_not] at h
 obtain rfl:k=N:=zO
 rw [Nat.sub_self] at hinv
 simp only [Zox,BT.bnd] at hinv
 have hFull:=Zk3 false th (fun x hx=>by have:=hth7 x hx;omega) zO
 have cb:=Za7 nb B most at0 e out (!fulN th) 3
 obtain ⟨e5,he5⟩:∃ e5,e5=if (!fulN th)=true∧e=0 then 3 else e:=⟨_,rfl⟩
 rw [←he5] at cb
 have hinv3:(e5=0∧fulN th=true∧L≤286∧D≤30∧((lsT th (L+D) 400 []).bnd (K2 most F L out)).run B at0=r)∨(e5≠0∧r = .no e5):=by
  rcases hinv with ⟨rfl,hL6,hD0,hrun⟩ | ⟨he,hr⟩
  ·cases hfu:fulN th with
   | true =>
    rw [K1,if_pos hfu] at hrun
    rw [hfu,if_neg zB] at he5
    exact .inl ⟨he5,rfl,hL6,hD0,hrun⟩
   | false =>
    rw [K1,if_neg (by rw [hfu];simp)] at hrun
    rw [hfu,if_pos ⟨rfl,rfl⟩] at he5
    exact .inr ⟨by omega,by rw [he5];exact hrun.symm⟩
  ·rw [if_neg (fun q=>he q.2)] at he5
   exact .inr ⟨by omega,by rw [he5];exact hr⟩
 obtain ⟨ff,hff⟩:∃ ff,ff=fulN th:=⟨_,rfl⟩
 rw [←hff] at hFull cb hinv3
 clear he5 hinv
 have htk:th.take 19=th:=List.take_of_length_le zO
 have hfr:AV.free.freeL [.sl false none (th.map nA)]=true:=by simp only [AV.free,AV.free.freeL,Zaj,Bool.and_self]
 iterate 1 (first|refine zS ?_|exact zT)
 refine SWp.to (F:=mk 190 (30+k) [(0,.op 1000 0 0),(2,int (L:Int)),(3,int (D:Int)),(6,.own 4005 28 none 0 19)] [(1000,0,.row false (stR nb B most 0 out.length at0 e5)),(1001,0,.row (nl0 out.length) (out.map u8)),(4005,28,.row false (th.map nA))]) ?_ ?_
 ·repeat (first|refine zS ?_|exact zT)
  refine Zaq (boo ff) (.inr ⟨rfl,?_,?_⟩) ?_
  ·(first|exact yU (ja3 iR @hthl @htk)|refine yR (ja3 iR @hthl @htk) ?_)
  ·(first|exact yU (ja3 iR @hthl @htk)|refine yR (ja3 iR @hthl @htk) ?_)
   exact hFull
  repeat (first|refine zR BH7 ?_|exact zU BH7)
  refine Zab [(1000,0),(1001,0)] 7000 cb zB zB ?_ ?_ ?_
  iterate 2 (case _=>(first|exact yU BH0|refine yR BH0 ?_))
  (first|exact yU BH3|refine yR BH3 ?_)
  exact Zal rfl (by simp only;omega) yT (yU BH7)
 rcases hinv3 with ⟨rfl,rfl,hL6,hD0,hrun⟩ | ⟨he,rfl⟩
 ·have hfu:fulN th=true:=hff.symm
  have hK:Zas th≤32768:=by simp only [fulN,decide_eq_true_eq] at hfu;omega
  have h15:∀ x∈th,x≤15:=fun x hx=>by have:=hth7 x hx;omega
  have cm:=Zio false th h15 zO hK
  obtain ⟨em,hem⟩:∃ em,em=th.isEmpty:=⟨_,rfl⟩
  rw [←hem] at cm
  have hk19:k≤19:=zO
  have hadd:(L:Int)+(D:Int)=((L+D:Nat):Int):=zO
  obtain ⟨N,hN2⟩:∃ N,N=L+D:=⟨_,rfl⟩
  rw [←hN2] at hadd hrun
  repeat (first|refine zR BH7 ?_|exact zU BH7)
  refine ZkK 4005 28 (nl:=false) (cells:=th.map nA) [.sl false none (th.map nA)] _ yT Zaj ?_ hfr cm ?_
  ·(first|exact yU (ja4 fR iR @hthl @htk)|refine yR (ja4 fR iR @hthl @htk) ?_)
  repeat (first|refine zR BH11 ?_|exact zU BH11)
  refine SWp.adopt 9 none yT ?_
  refine SWp.loop (α:=Nat × List Nat × Nat × Nat × Nat × Nat) (fun x=>mk 190 x.2.2.2.2.2 [(0,.op 1000 0 0),(2,int (L:Int)),(3,int (D:Int)),(8,.op 8 (30+k) 0),(9,.own 9 x.2.2.2.2.1 none 0 x.2.1.length)] [(1000,0,.row false (stR nb B most 0 out.length x.2.2.1 x.2.2.2.1)),(1001,0,.row (nl0 out.length) (out.map u8)),(8,30+k,.row false [.sl false none (th.map nA),.sl em none ((Zf1 th).map nA)]),(9,x.2.2.2.2.1,.row (nl0 x.2.1.length) (x.2.1.map nA))])
   (fun x=>x.2.2.2.2.2+1000*x.1≤400000+100∧x.2.1.length≤1000∧((x.2.2.2.1=0∧((lsT th N x.1 x.2.1).bnd (K2 most F L out)).run B x.2.2.1=r∧x.2.2.1≤8*b.length∧x.2.1.length≤N∧N-x.2.1.length<x.1∧∀ y∈x.2.1,y≤15)∨(x.2.2.2.1≠0∧r = .no x.2.2.2.1)))
   (fun x=>x.1+(if x.2.2.2.1=0 then 1 else 0)) (400,[],at0,0,31+k,32+k) ⟨by simp only;omega,Nat.zero_le _,.inl ⟨rfl,hrun,hat,Nat.zero_le _,by simp only [List.length_nil];omega,by simp⟩⟩ (Zal rfl ?_ ?_ ?_) ?_
  ·simp only;omega
  ·(first|exact yT|refine yS ?_)
   try omega
  ·(first|exact yU (ja3 @stR.eq_1 iR @Zay)|refine yR (ja3 @stR.eq_1 iR @Zay) ?_)
   try omega
  clear hrun cb hFull
  rintro ⟨f,lens,at2,e,g,c⟩ ⟨hc,hl1000,hx⟩ -
  simp only at hc hl1000 hx
  rcases hx with ⟨rfl,hrun,hat2,hln,hfu2,hl15⟩ | ⟨he,rfl⟩
  ·by_cases clt:lens.length<N
   ·have dlt:decide ((lens.length:Int)<((N:Nat):Int))=true:=decide_eq_true zO
    obtain ⟨f,rfl⟩:∃ f',f=f'+1:=⟨f-1,by omega⟩
    rw [lsT,if_neg zO,Zak,Zak,ZrD] at hrun
    have hS:=ZjD nb B zO hB2 most at2 0 zO out false em th zO h15 hK
    obtain ⟨hs320,hpq,hqB,hq0,he10⟩:=ZmG (by omega:th.length≤320) (l:=th) (B:=B) (i:=at2) zO
    have hs19:(syS th B at2 0).1<19:=by
     have hsy:=Zin (l:=th) (B:=B.drop at2) 15 0 0
     unfold syS
     rw [if_neg zB]
     split
     ·rename_i q;have:=(hsy q).1;simp only;omega
     ·simp only;omega
    have hs0:(syS th B at2 0).2.2≠0→(syS th B at2 0).1=0:=fun q=>by
     unfold syS at q ⊢
     rw [if_neg zB] at q ⊢
     split
     ·rename_i q2;rw [if_pos q2] at q;exact absurd rfl q
     ·rfl
    obtain ⟨⟨x,p1,e1⟩,hxs⟩:∃ s,s=syS th B at2 0:=⟨_,rfl⟩
    rw [←hxs] at hS hrun hs320 hpq hqB hq0 he10 hs19 hs0
    simp only at hS hrun hs320 hpq hqB hq0 he10 hs19 hs0
    clear hxs
    by_cases ce:e1=0
    ·subst ce
     rw [if_pos rfl] at hrun
     simp only [BR.bnd] at hrun
     by_cases c16:x=16∧lens=[]
     ·obtain ⟨rfl,rfl⟩:=c16
      rw [if_pos ⟨rfl,rfl⟩] at hrun
      simp only [BT.run] at hrun
      subst hrun
      have dlN:decide (((N:Nat):Int)<3)=false:=decide_eq_false zO
      have dl0:decide ((0:Int)<((N:Nat):Int))=true:=decide_eq_true zO
      have hb0:=Za7 nb B most p1 0 out true 3
      rw [if_pos ⟨rfl,rfl⟩] at hb0
      have hcn:=hNum p1 3 zO out 2 zO
      rw [ke zO] at hcn
      have hbd:=Za7 nb B most p1 3 out false 3
      rw [if_neg zB] at hbd
      have htm:=ZcF 0 3 zO
      have dl0':decide (0<N)=true:=decide_eq_true zO
      repeat (first|refine zR (ja5 @stR.eq_1 iR @dl0 @dl0' @hadd) ?_|exact zU (ja5 @stR.eq_1 iR @dl0 @dl0' @hadd))
      refine Zab [(1000,0),(1001,0)] 8000 hS zB zB ?_ ?_ ?_
      iterate 2 (case _=>(first|exact yU BH0|refine yR BH0 ?_))
      repeat (first|refine zR BH3 ?_|exact zU BH3)
      refine Zab [(1000,0),(1001,0)] 9000 hb0 zB zB ?_ ?_ ?_
      iterate 2 (case _=>(first|exact yU BH0|refine yR BH0 ?_))
      repeat (first|refine zR BH3 ?_|exact zU BH3)
      refine Zab [(1000,0),(1001,0)] 10000 hcn zB zB ?_ ?_ ?_
      iterate 2 (case _=>(first|exact yU BH0|refine yR BH0 ?_))
      repeat (first|refine zR (ja5 @stO.eq_1 @stR.eq_1 iR @hadd @dlN) ?_|exact zU (ja5 @stO.eq_1 @stR.eq_1 iR @hadd @dlN))
      refine Zab [(1000,0),(1001,0)] 11000 hbd zB zB ?_ ?_ ?_
      iterate 2 (case _=>(first|exact yU BH0|refine yR BH0 ?_))
      repeat (first|refine zR BH3 ?_|exact zU BH3)
      refine Zab [] 12000 htm zB zB ?_ ?_ ?_
      iterate 2 (case _=>(first|exact yT|refine yS ?_))
      repeat (first|refine zR (ja4 @stO.eq_1 @stR.eq_1 iR @Zay) ?_|exact zU (ja4 @stO.eq_1 @stR.eq_1 iR @Zay))
      try refine ⟨⟨by simp,by simp,by simp⟩,?_⟩
      refine At.of (f,[0,0,0],p1,3,c+14,c+15) ⟨by simp only;omega,by simp,.inr ⟨by simp,rfl⟩⟩ (by simp <;> omega) rfl rfl ?_ ?_ ?_
      ·simp only;omega
      ·(first|exact yT|refine yS ?_)
       try rfl
      ·(first|exact yU BH7|refine yR BH7 ?_)
       try first|exact ⟨rfl,rfl⟩ | rfl
     ·have hplus:=ZmF (B:=B) (n:=lsB x) (i:=p1) hqB
      have hfk:=fact (n:=lsB x) (i:=p1) (e:=0) (by unfold lsB;split <;> (try split) <;> (try split) <;> omega) zO
      have hpl:(ZeO (lsN x) (lsB x)).run B p1=if (nuS B (lsB x) p1 0).2.2=0 then .ok (lsN x+(nuS B (lsB x) p1 0).1) (nuS B (lsB x) p1 0).2.1 else .no (nuS B (lsB x) p1 0).2.2:=by
       rw [ZeO,Zak,hplus]
       split <;> rfl
      have hB7:lsB x≤7:=by unfold lsB;split <;> (try split) <;> (try split) <;> omega
      have hN3:1≤lsN x∧lsN x≤11:=by unfold lsN;split <;> (try split) <;> omega
      have hp7:2^lsB x≤128:=ZaI (n:=lsB x) (m:=7) hB7
      have hcn:=hNum p1 0 zO out (lsB x) zO
      have hy15:=ZCN (s:=x) (lens:=lens) hs19 c16 hl15
      obtain ⟨⟨v,p2,e2⟩,hv⟩:∃ s,s=nuS B (lsB x) p1 0:=⟨_,rfl⟩
      rw [←hv] at hpl hfk hcn
      simp only at hpl hfk hcn
      obtain ⟨n,hn⟩:∃ n,n=lsN x+v:=⟨_,rfl⟩
      have en:(lsN x:Int)+(v:Int)=(n:Int):=zO
      rw [←hn] at hpl
      have hn1:1≤n∧n≤139:=zO
      obtain ⟨y,hy⟩:∃ y,y=lsV x lens:=⟨_,rfl⟩
      have hbd:=Za7 nb B most p2 e2 out (decide (N<lens.length+n)) 3
      obtain ⟨e3,he3⟩:∃ e3,e3=if N<lens.length+n∧e2=0 then 3 else e2:=⟨_,rfl⟩
      have hee:(if decide (N<lens.length+n)=true∧e2=0 then 3 else e2)=e3:=by rw [he3];simp only [decide_eq_true_eq]
      rw [hee] at hbd
      have hst:=ZBg c16 hy hpl he3 hrun
      have hdd:decide (((N:Nat):Int)-(lens.length:Int)<(n:Int))=decide (N<lens.length+n):=decide_eq_decide.2 zO
      obtain ⟨bd,hbdd⟩:∃ bd,bd=decide (N<lens.length+n):=⟨_,rfl⟩
      rw [←hbdd] at hbd hdd
      have htm:=ZcF y n zO
      have hX15:=ZBh (lens:=lens) (n:=n) (y:=y) (by rw [hy];exact hy15) hl15
      have hn0:nl0 n=false:=Zci zO
      have hXl:(List.replicate n y).length=n:=List.length_replicate
      have hXe:((List.replicate n y).map nA).isEmpty=false:=by
       obtain ⟨m,rfl⟩:∃ m,n=m+1:=⟨n-1,by omega⟩
       rfl
      have hXt:((List.replicate n y).map nA).take n=(List.replicate n y).map nA:=List.take_of_length_le zB
      have hXt2:(List.replicate n y).take n=List.replicate n y:=List.take_of_length_le zB
      obtain ⟨X,hX⟩:∃ X,X=List.replicate n y:=⟨_,rfl⟩
      rw [hn0] at htm
      rw [←hX] at htm hX15 hXl hXe hXt hXt2 hst
      have hla:(lens++X).length=lens.length+n:=by rw [List.length_append,hXl]
      have hn1':nl0 (lens.length+n)=false:=ZrG zO
      clear hrun he3 hee hbdd hpl hplus
      have hfin:((e3=0∧((lsT th N f (lens++X)).bnd (K2 most F L out)).run B p2=r∧p2≤8*b.length∧(lens++X).length≤N∧N-(lens++X).length<f∧∀ y∈lens++X,y≤15)∨(e3≠0∧r = .no e3)):=by
       rcases hst with ⟨q1,q2,q3⟩ | q
       ·exact .inl ⟨q1,q2,hfk.2,by omega,by omega,hX15⟩
       ·exact .inr q
      have hmu:f+(if e3=0 then 1 else 0)<f+1+(if (0:Nat)=0 then 1 else 0):=by
       split <;> simp <;> omega
      by_cases e16:x=16
      ·subst e16
       have hl0:0<lens.length:=List.length_pos_iff.2 fun h=>c16 ⟨rfl,h⟩
       have dl:decide ((lens.length:Int)=0)=false:=decide_eq_false zO
       have dl2:decide ((0:Int)<(lens.length:Int))=true:=decide_eq_true zO
       have hb0:=Za7 nb B most p1 0 out false 3
       rw [if_neg zB] at hb0
       rw [show lsB 16=2 from rfl] at hcn
       rw [show lsN 16=3 from rfl] at en
       have en:(3:Int)+(v:Int)=(n:Int):=en
       obtain ⟨z,hz⟩:∃ z,z=lens.length-1:=⟨_,rfl⟩
       have ez:(lens.length:Int)-1=(z:Int):=zO
       have hyz:lens.getD z 0=y:=by rw [hy,hz];rfl
       repeat (first|refine zR (ja4 @stR.eq_1 iR @dlt @hadd) ?_|exact zU (ja4 @stR.eq_1 iR @dlt @hadd))
       refine Zab [(1000,0),(1001,0)] 8000 hS zB zB ?_ ?_ ?_
       iterate 2 (case _=>(first|exact yU BH0|refine yR BH0 ?_))
       repeat (first|refine zR (ja4 @stO.eq_1 @stR.eq_1 iR @dl) ?_|exact zU (ja4 @stO.eq_1 @stR.eq_1 iR @dl))
       refine Zab [(1000,0),(1001,0)] 9000 hb0 zB zB ?_ ?_ ?_
       iterate 2 (case _=>(first|exact yU BH0|refine yR BH0 ?_))
       repeat (first|refine zR (ja6 @stO.eq_1 @stR.eq_1 iR @dl2 @ez @hyz) ?_|exact zU (ja6 @stO.eq_1 @stR.eq_1 iR @dl2 @ez @hyz))
       refine Zab [(1000,0),(1001,0)] 10000 hcn zB zB ?_ ?_ ?_
       iterate 2 (case _=>(first|exact yU BH0|refine yR BH0 ?_))
       repeat (first|refine zR (ja6 @stO.eq_1 @stR.eq_1 iR @hadd @en @hdd) ?_|exact zU (ja6 @stO.eq_1 @stR.eq_1 iR @hadd @en @hdd))
       refine Zab [(1000,0),(1001,0)] 11000 hbd zB zB ?_ ?_ ?_
       iterate 2 (case _=>(first|exact yU BH0|refine yR BH0 ?_))
       repeat (first|refine zR BH3 ?_|exact zU BH3)
       refine Zab [] 12000 htm zB zB ?_ ?_ ?_
       iterate 2 (case _=>(first|exact yT|refine yS ?_))
       repeat (first|refine zR (ja8 @stO.eq_1 @stR.eq_1 iR @hXl @hXe @hXt @hXt2 @Bool.and_false) ?_|exact zU (ja8 @stO.eq_1 @stR.eq_1 iR @hXl @hXe @hXt @hXt2 @Bool.and_false))
       refine At.of (f,lens++X,p2,e3,c+n+11,c+n+11+1) ⟨by simp only;omega,by simp only;omega,hfin⟩ hmu rfl rfl ?_ ?_ ?_
       ·simp only;omega
       ·(first|exact yU @hXl|refine yR @hXl ?_)
        try omega
       ·(first|exact yU (ja4 @stR.eq_1 iR @hXl @hn1')|refine yR (ja4 @stR.eq_1 iR @hXl @hn1') ?_)
        try omega
      have d16:decide ((x:Int)=16)=false:=decide_eq_false zO
      by_cases e17:x=17
      ·subst e17
       rw [show lsB 17=3 from rfl] at hcn
       rw [show lsN 17=3 from rfl] at en
       have en:(3:Int)+(v:Int)=(n:Int):=en
       obtain rfl:y=0:=hy
       repeat (first|refine zR (ja4 @stR.eq_1 iR @dlt @hadd) ?_|exact zU (ja4 @stR.eq_1 iR @dlt @hadd))
       refine Zab [(1000,0),(1001,0)] 8000 hS zB zB ?_ ?_ ?_
       iterate 2 (case _=>(first|exact yU BH0|refine yR BH0 ?_))
       repeat (first|refine zR BH3 ?_|exact zU BH3)
       refine Zab [(1000,0),(1001,0)] 10000 hcn zB zB ?_ ?_ ?_
       iterate 2 (case _=>(first|exact yU BH0|refine yR BH0 ?_))
       repeat (first|refine zR (ja6 @stO.eq_1 @stR.eq_1 iR @hadd @en @hdd) ?_|exact zU (ja6 @stO.eq_1 @stR.eq_1 iR @hadd @en @hdd))
       refine Zab [(1000,0),(1001,0)] 11000 hbd zB zB ?_ ?_ ?_
       iterate 2 (case _=>(first|exact yU BH0|refine yR BH0 ?_))
       repeat (first|refine zR BH3 ?_|exact zU BH3)
       refine Zab [] 12000 htm zB zB ?_ ?_ ?_
       iterate 2 (case _=>(first|exact yT|refine yS ?_))
       repeat (first|refine zR (ja8 @stO.eq_1 @stR.eq_1 iR @hXl @hXe @hXt @hXt2 @Bool.and_false) ?_|exact zU (ja8 @stO.eq_1 @stR.eq_1 iR @hXl @hXe @hXt @hXt2 @Bool.and_false))
       refine At.of (f,lens++X,p2,e3,c+n+10,c+n+10+1) ⟨by simp only;omega,by simp only;omega,hfin⟩ hmu rfl rfl ?_ ?_ ?_
       ·simp only;omega
       ·(first|exact yU @hXl|refine yR @hXl ?_)
        try omega
       ·(first|exact yU (ja4 @stR.eq_1 iR @hXl @hn1')|refine yR (ja4 @stR.eq_1 iR @hXl @hn1') ?_)
        try omega
      have d17:decide ((x:Int)=17)=false:=decide_eq_false zO
      by_cases e18:x=18
      ·subst e18
       rw [show lsB 18=7 from rfl] at hcn
       rw [show lsN 18=11 from rfl] at en
       have en:(11:Int)+(v:Int)=(n:Int):=en
       obtain rfl:y=0:=hy
       repeat (first|refine zR (ja4 @stR.eq_1 iR @dlt @hadd) ?_|exact zU (ja4 @stR.eq_1 iR @dlt @hadd))
       refine Zab [(1000,0),(1001,0)] 8000 hS zB zB ?_ ?_ ?_
       iterate 2 (case _=>(first|exact yU BH0|refine yR BH0 ?_))
       repeat (first|refine zR BH3 ?_|exact zU BH3)
       refine Zab [(1000,0),(1001,0)] 10000 hcn zB zB ?_ ?_ ?_
       iterate 2 (case _=>(first|exact yU BH0|refine yR BH0 ?_))
       repeat (first|refine zR (ja6 @stO.eq_1 @stR.eq_1 iR @hadd @en @hdd) ?_|exact zU (ja6 @stO.eq_1 @stR.eq_1 iR @hadd @en @hdd))
       refine Zab [(1000,0),(1001,0)] 11000 hbd zB zB ?_ ?_ ?_
       iterate 2 (case _=>(first|exact yU BH0|refine yR BH0 ?_))
       repeat (first|refine zR BH3 ?_|exact zU BH3)
       refine Zab [] 12000 htm zB zB ?_ ?_ ?_
       iterate 2 (case _=>(first|exact yT|refine yS ?_))
       repeat (first|refine zR (ja8 @stO.eq_1 @stR.eq_1 iR @hXl @hXe @hXt @hXt2 @Bool.and_false) ?_|exact zU (ja8 @stO.eq_1 @stR.eq_1 iR @hXl @hXe @hXt @hXt2 @Bool.and_false))
       refine At.of (f,lens++X,p2,e3,c+n+10,c+n+10+1) ⟨by simp only;omega,by simp only;omega,hfin⟩ hmu rfl rfl ?_ ?_ ?_
       ·simp only;omega
       ·(first|exact yU @hXl|refine yR @hXl ?_)
        try omega
       ·(first|exact yU (ja4 @stR.eq_1 iR @hXl @hn1')|refine yR (ja4 @stR.eq_1 iR @hXl @hn1') ?_)
        try omega
      have d18:decide ((x:Int)=18)=false:=decide_eq_false zO
      obtain rfl:y=x:=by rw [hy,lsV,if_neg e16,if_neg zO]
      have hb0:lsB y=0:=by rw [lsB,if_neg e16,if_neg e17,if_neg e18]
      have hN0:lsN y=1:=by rw [lsN,if_neg zO,if_neg e18]
      rw [hb0,nuS,if_neg zB,if_pos zO] at hv
      simp only [List.take_zero,Zfi,Nat.add_zero,Prod.mk.injEq] at hv
      obtain ⟨rfl,rfl,rfl⟩:=hv
      obtain rfl:n=1:=zO
      have hdd:decide (((N:Nat):Int)-(lens.length:Int)<1)=bd:=hdd
      repeat (first|refine zR (ja4 @stR.eq_1 iR @dlt @hadd) ?_|exact zU (ja4 @stR.eq_1 iR @dlt @hadd))
      refine Zab [(1000,0),(1001,0)] 8000 hS zB zB ?_ ?_ ?_
      iterate 2 (case _=>(first|exact yU BH0|refine yR BH0 ?_))
      repeat (first|refine zR (ja8 @stO.eq_1 @stR.eq_1 iR @d16 @d17 @d18 @hadd @hdd) ?_|exact zU (ja8 @stO.eq_1 @stR.eq_1 iR @d16 @d17 @d18 @hadd @hdd))
      refine Zab [(1000,0),(1001,0)] 11000 hbd zB zB ?_ ?_ ?_
      iterate 2 (case _=>(first|exact yU BH0|refine yR BH0 ?_))
      repeat (first|refine zR BH3 ?_|exact zU BH3)
      refine Zab [] 12000 htm zB zB ?_ ?_ ?_
      iterate 2 (case _=>(first|exact yT|refine yS ?_))
      repeat (first|refine zR (ja8 @stO.eq_1 @stR.eq_1 iR @hXl @hXe @hXt @hXt2 @Bool.and_false) ?_|exact zU (ja8 @stO.eq_1 @stR.eq_1 iR @hXl @hXe @hXt @hXt2 @Bool.and_false))
      refine At.of (f,lens++X,p2,e3,c+10,c+10+1) ⟨by simp only;omega,by simp only;omega,hfin⟩ hmu rfl rfl ?_ ?_ ?_
      ·simp only;omega
      iterate 2 (case _=>(first|exact yU (ja4 @hXl @stR.eq_1 iR @hn1')|refine yR (ja4 @hXl @stR.eq_1 iR @hn1') ?_))
    ·rw [if_neg ce] at hrun
     simp only [BR.bnd] at hrun
     subst hrun
     obtain rfl:x=0:=hs0 ce
     have de:decide ((e1:Int)=0)=false:=decide_eq_false zO
     have hbd:=Za7 nb B most p1 e1 out false 3
     rw [if_neg zB] at hbd
     have hdd:decide (((N:Nat):Int)-(lens.length:Int)<1)=false:=decide_eq_false zO
     have htm:=ZcF 0 1 zO
     have hn1':nl0 (lens.length+1)=false:=ZrG zO
     repeat (first|refine zR (ja4 @stR.eq_1 iR @dlt @hadd) ?_|exact zU (ja4 @stR.eq_1 iR @dlt @hadd))
     refine Zab [(1000,0),(1001,0)] 8000 hS zB zB ?_ ?_ ?_
     iterate 2 (case _=>(first|exact yU BH0|refine yR BH0 ?_))
     repeat (first|refine zR (ja5 @stO.eq_1 @stR.eq_1 iR @hadd @hdd) ?_|exact zU (ja5 @stO.eq_1 @stR.eq_1 iR @hadd @hdd))
     refine Zab [(1000,0),(1001,0)] 11000 hbd zB zB ?_ ?_ ?_
     iterate 2 (case _=>(first|exact yU BH0|refine yR BH0 ?_))
     repeat (first|refine zR BH3 ?_|exact zU BH3)
     refine Zab [] 12000 htm zB zB ?_ ?_ ?_
     iterate 2 (case _=>(first|exact yT|refine yS ?_))
     repeat (first|refine zR (ja4 @stO.eq_1 @stR.eq_1 iR @Zaw) ?_|exact zU (ja4 @stO.eq_1 @stR.eq_1 iR @Zaw))
     try refine ⟨⟨by simp,by simp <;> omega,by simp <;> omega⟩,?_⟩
     refine At.of (f,lens++[0],p1,e1,c+10,c+11) ⟨by simp only;omega,by simp only [List.length_append,List.length_singleton];omega,.inr ⟨ce,rfl⟩⟩ (by simp only;rw [if_neg ce];omega) rfl rfl ?_ ?_ ?_
     ·simp only;omega
     ·(first|exact yT|refine yS ?_)
      try rfl
     ·(first|exact yU (ja3 @stR.eq_1 iR @hn1')|refine yR (ja3 @stR.eq_1 iR @hn1') ?_)
      first|exact ⟨Bool.and_false _,rfl⟩ | rfl
   ·have dlt:decide ((lens.length:Int)<((N:Nat):Int))=false:=decide_eq_false zO
    obtain rfl:lens.length=N:=zO
    rw [show lsT th lens.length f lens = .ret lens by
     obtain ⟨f,rfl⟩:∃ f',f=f'+1:=⟨f-1,by omega⟩
     rw [lsT,if_pos (Nat.le_refl _)]] at hrun
    simp only [BT.bnd] at hrun
    have hn1:nl0 lens.length=false:=Zci zO
    have htl:lens.take lens.length=lens:=List.take_length
    refine SWp.frzo 9 g (nl:=false) (cells:=lens.map nA) (yU @hn1) Zaj ?_
    refine SWp.le (Zal (N:=190) (gc:=c) (l:=[(0,.op 1000 0 0),(2,int (L:Int)),(3,int (D:Int)),(9,.sl false none (lens.map nA))]) (h:=[(1000,0,.row false (stR nb B most 0 out.length at2 0)),(1001,0,.row (nl0 out.length) (out.map u8))]) rfl ?_ ?_ ?_) ?_
    ·exact Nat.le_refl _
    iterate 2 (case _=>(first|exact yU (ja5 fR iR @htl @stR.eq_1 @false_and)|refine yR (ja5 fR iR @htl @stR.eq_1 @false_and) ?_))
    repeat (first|refine zR (ja4 @stR.eq_1 iR @dlt @hadd) ?_|exact zU (ja4 @stR.eq_1 iR @dlt @hadd))
    obtain ⟨ds,hds⟩:∃ ds,ds=lens.drop L:=⟨_,rfl⟩
    have hdl:ds.length=D:=by rw [hds,List.length_drop];omega
    have hdg:∀ j,j<D→lens.getD (L+j) 0=ds.getD j 0:=fun j hj=>by rw [hds];simp [List.getD]
    have hd15:∀ x∈ds,x≤15:=fun x hx=>hl15 x (by rw [hds] at hx;exact List.mem_of_mem_drop hx)
    refine SWp.loop (α:=Nat) (fun m=>mk 190 c [(0,.op 1000 0 0),(2,int (L:Int)),(3,int (D:Int)),(9,.sl false none (lens.map nA)),(13,int (usd (ds.take (m-L)):Nat)),(14,int (mst (ds.take (m-L)):Nat)),(15,int (m:Int))] [(1000,0,.row false (stR nb B most 0 out.length at2 0)),(1001,0,.row (nl0 out.length) (out.map u8))])
     (fun m=>L≤m∧m≤lens.length) (fun m=>lens.length-m) L ⟨Nat.le_refl _,by omega⟩ (Zal rfl ?_ ?_ ?_) ?_
    ·exact Nat.le_refl _
    iterate 2 (case _=>(first|exact yU BH31|refine yR BH31 ?_))
    rintro m ⟨hm1,hm2⟩ -
    obtain ⟨hu1,hu2,hu3,hu4⟩:=ZpX _ (ds.take (m-L)) rfl
    have htl2:(ds.take (m-L)).length≤1000:=by rw [List.length_take];omega
    have hsum:=ZoJ (l:=ds.take (m-L)) fun x hx=>hd15 x (List.mem_of_mem_take hx)
    repeat (first|refine zR (ja3 @stR.eq_1 iR @hadd) ?_|exact zU (ja3 @stR.eq_1 iR @hadd))
    refine SWp.cond rfl (fun h=>?_) (fun h=>?_)
    ·simp only [decide_eq_true_eq] at h
     have hmN:m<lens.length:=zO
     have hsn:=Zm0 (l:=ds) (k:=m-L) (d:=0) zO
     have hg:=hdg (m-L) zO
     rw [show L+(m-L)=m by omega] at hg
     rw [show m-L+1=m+1-L by omega] at hsn
     obtain ⟨x,hx⟩:∃ x,x=lens.getD m 0:=⟨_,rfl⟩
     rw [←hx] at hg
     rw [←hg] at hsn
     have hus:=Zsz (l:=ds.take (m-L)) (x:=x)
     have hms:=ZsA (l:=ds.take (m-L)) (x:=x)
     rw [←hsn] at hus hms
     obtain ⟨U0,hU0⟩:∃ U0,U0=usd (ds.take (m-L)):=⟨_,rfl⟩
     obtain ⟨M0,hM0⟩:∃ M0,M0=mst (ds.take (m-L)):=⟨_,rfl⟩
     rw [←hU0] at hus hu1 hu2
     rw [←hM0] at hms hu3
     by_cases k1:0<x
     ·have d1:decide ((0:Int)<(x:Int))=true:=decide_eq_true zO
      rw [if_pos k1] at hus
      by_cases k2:M0<x
      ·have d2:decide ((M0:Int)<(x:Int))=true:=decide_eq_true zO
       rw [if_pos k2] at hms
       repeat (first|refine zR (ja7 @stR.eq_1 iR hx.symm hU0.symm hM0.symm @d1 @d2) ?_|exact zU (ja7 @stR.eq_1 iR hx.symm hU0.symm hM0.symm @d1 @d2))
       refine At.of (m+1) ⟨by omega,by omega⟩ zO rfl rfl (Nat.le_refl _) ?_ ?_
       iterate 2 (case _=>(first|exact yU (ja3 @hus @hms @stR.eq_1)|refine yR (ja3 @hus @hms @stR.eq_1) ?_))
      ·have d2:decide ((M0:Int)<(x:Int))=false:=decide_eq_false zO
       rw [if_neg k2] at hms
       repeat (first|refine zR (ja7 @stR.eq_1 iR hx.symm hU0.symm hM0.symm @d1 @d2) ?_|exact zU (ja7 @stR.eq_1 iR hx.symm hU0.symm hM0.symm @d1 @d2))
       refine At.of (m+1) ⟨by omega,by omega⟩ zO rfl rfl (Nat.le_refl _) ?_ ?_
       iterate 2 (case _=>(first|exact yU (ja3 @hus @hms @stR.eq_1)|refine yR (ja3 @hus @hms @stR.eq_1) ?_))
     ·have d1:decide ((0:Int)<(x:Int))=false:=decide_eq_false zO
      have d2:decide ((M0:Int)<(x:Int))=false:=decide_eq_false zO
      rw [if_neg k1] at hus
      rw [if_neg zO] at hms
      repeat (first|refine zR (ja7 @stR.eq_1 iR hx.symm hU0.symm hM0.symm @d1 @d2) ?_|exact zU (ja7 @stR.eq_1 iR hx.symm hU0.symm hM0.symm @d1 @d2))
      refine At.of (m+1) ⟨by omega,by omega⟩ zO rfl rfl (Nat.le_refl _) ?_ ?_
      iterate 2 (case _=>(first|exact yU (ja3 @hus @hms @stR.eq_1)|refine yR (ja3 @hus @hms @stR.eq_1) ?_))
    simp only [decide_eq_false_iff_not] at h
    obtain rfl:m=lens.length:=zO
    rw [show ds.take (lens.length-L)=ds from List.take_of_length_le zO] at hu1 hu2 hu3 hsum ⊢
    iterate 1 (first|refine zS ?_|exact zT)
    have hfd:=ZBf (d:=ds)
    obtain ⟨U0,hU0⟩:∃ U0,U0=usd ds:=⟨_,rfl⟩
    obtain ⟨M0,hM0⟩:∃ M0,M0=mst ds:=⟨_,rfl⟩
    rw [←hU0,←hM0] at hfd
    rw [←hU0] at hu1 hu2 ⊢
    rw [←hM0] at hu3 ⊢
    have hF1:=Zk3 false (lens.take L) (fun x hx=>hl15 x (List.mem_of_mem_take hx)) (by rw [List.length_take];omega)
    have hF2:=Zk3 false ds hd15 zO
    obtain ⟨tk,htk9⟩:∃ tk,tk=lens.take L:=⟨_,rfl⟩
    have htkl:tk.length=L:=by rw [htk9,List.length_take];omega
    have ht15:∀ x∈tk,x≤15:=fun x hx=>hl15 x (by rw [htk9] at hx;exact List.mem_of_mem_take hx)
    have h256:lens.getD 256 0=tk.getD 256 0:=by rw [htk9];simp only [List.getD];rw [List.getElem?_take,if_pos zO]
    rw [K2,←htk9,←hds] at hrun
    rw [←htk9] at hF1
    have hco:Zsp tk ds=(decide (tk.getD 256 0≠0)&&fulN tk&&(!(decide (1<U0) || decide (1<M0)) || fulN ds)):=by rw [Zsp,Zzx,hfd]
    have hLl:(L:Int)≤((lens.length:Nat):Int):=zO
    obtain ⟨x6,hx6⟩:∃ x6,x6=tk.getD 256 0:=⟨_,rfl⟩
    rw [←hx6] at h256 hco
    have hfrt:AV.free.freeL [.sl false none (tk.map nA)]=true:=by simp only [AV.free,AV.free.freeL,Zaj,Bool.and_self]
    have hfrd:AV.free.freeL [.sl false none (ds.map nA)]=true:=by simp only [AV.free,AV.free.freeL,Zaj,Bool.and_self]
    have qU:decide ((1:Int)<(U0:Int))=decide (1<U0):=decide_eq_decide.2 zO
    have qM:decide ((1:Int)<(M0:Int))=decide (1<M0):=decide_eq_decide.2 zO
    cases hcN:Zsp tk ds with
    | false =>
     rw [if_neg (by rw [hcN];simp)] at hrun
     simp only [BT.run] at hrun
     subst hrun
     refine SWp.le (Zal (N:=190) (gc:=400100) (l:=[(0,.op 1000 0 0),(2,int (L:Int)),(3,int (D:Int)),(9,.sl false none (lens.map nA)),(13,int (U0:Int)),(14,int (M0:Int))]) (h:=[(1000,0,.row false (stR nb B most 0 out.length at2 0))]) rfl ?_ ?_ ?_) ?_
     ·show c≤400100;omega
     iterate 2 (case _=>(first|exact yU BH7|refine yR BH7 ?_))
     refine SWp.blur 1000 0 (nl:=false) (cells:=(stR nb B most 0 out.length at2 0)) (jkR 0) yT (by simp only [stR,jkR,ZoY];simp) ?_
     refine SWp.le (Zal (N:=190) (gc:=400100) (l:=[(0,.op 1000 0 0),(2,int (L:Int)),(3,int (D:Int)),(9,.sl false none (lens.map nA)),(13,int (U0:Int)),(14,int (M0:Int))]) (h:=[(1000,0,.row false (jkR 0))]) rfl ?_ ?_ ?_) ?_
     ·exact Nat.le_refl _
     iterate 2 (case _=>(first|exact yT|refine yS ?_))
     by_cases k1:x6=0
     ·have d1:decide ((x6:Int)=0)=true:=decide_eq_true zO
      repeat (first|refine zR (ja6 @jkR.eq_1 @ZaF.eq_1 @ZaF.eq_2 iR @h256 @d1) ?_|exact zU (ja6 @jkR.eq_1 @ZaF.eq_1 @ZaF.eq_2 iR @h256 @d1))
      all_goals omega
     ·have d1:decide ((x6:Int)=0)=false:=decide_eq_false zO
      rw [decide_eq_true (by simpa using k1),Bool.true_and] at hco
      cases k2:fulN tk with
      | false =>
       rw [k2] at hF1
       repeat (first|refine zR (ja7 @jkR.eq_1 @ZaF.eq_1 @ZaF.eq_2 iR @h256 @d1 htk9.symm) ?_|exact zU (ja7 @jkR.eq_1 @ZaF.eq_1 @ZaF.eq_2 iR @h256 @d1 htk9.symm))
       refine Zaq _ (.inl ⟨hfrt,hF1⟩) ?_
       repeat (first|refine zR (ja4 @jkR.eq_1 @ZaF.eq_1 @ZaF.eq_2 iR) ?_|exact zU (ja4 @jkR.eq_1 @ZaF.eq_1 @ZaF.eq_2 iR))
       all_goals omega
      | true =>
       rw [k2] at hF1
       rw [k2,Bool.true_and,hcN] at hco
       cases k3:fulN ds with
       | true=>rw [k3,Bool.or_true] at hco;cases hco
       | false =>
        rw [k3] at hF2
        rw [k3,Bool.or_false] at hco
        repeat (first|refine zR (ja7 @jkR.eq_1 @ZaF.eq_1 @ZaF.eq_2 iR @h256 @d1 htk9.symm) ?_|exact zU (ja7 @jkR.eq_1 @ZaF.eq_1 @ZaF.eq_2 iR @h256 @d1 htk9.symm))
        refine Zaq _ (.inl ⟨hfrt,hF1⟩) ?_
        repeat (first|refine zR (ja5 @jkR.eq_1 @ZaF.eq_1 @ZaF.eq_2 iR hds.symm) ?_|exact zU (ja5 @jkR.eq_1 @ZaF.eq_1 @ZaF.eq_2 iR hds.symm))
        refine Zaq _ (.inl ⟨hfrd,hF2⟩) ?_
        by_cases k4:1<U0
        ·rw [decide_eq_true k4] at qU
         repeat (first|refine zR (ja5 @jkR.eq_1 @ZaF.eq_1 @ZaF.eq_2 iR @qU) ?_|exact zU (ja5 @jkR.eq_1 @ZaF.eq_1 @ZaF.eq_2 iR @qU))
         all_goals omega
        ·rw [decide_eq_false k4] at qU
         have k5:1<M0:=by
          by_cases q:1<M0
          ·exact q
          ·rw [decide_eq_false k4,decide_eq_false q] at hco;cases hco
         rw [decide_eq_true k5] at qM
         repeat (first|refine zR (ja6 @jkR.eq_1 @ZaF.eq_1 @ZaF.eq_2 iR @qU @qM) ?_|exact zU (ja6 @jkR.eq_1 @ZaF.eq_1 @ZaF.eq_2 iR @qU @qM))
         all_goals omega
    | true =>
     rw [if_pos hcN] at hrun
     obtain ⟨hc1,hc2,hc3⟩:=ZwR hcN
     rw [hcN] at hco
     have hco:=hco.symm
     simp only [Bool.and_eq_true,decide_eq_true_eq] at hco
     obtain ⟨⟨k1,k2⟩,k3⟩:=hco
     have d1:decide ((x6:Int)=0)=false:=decide_eq_false zO
     rw [k2] at hF1
     refine SWp.to (F:=mk 190 499997 [(0,.op 1000 0 0),(2,int (L:Int)),(3,int (D:Int)),(9,.sl false none (lens.map nA))] [(1000,0,.row false (stR nb B most 0 out.length at2 0)),(1001,0,.row (nl0 out.length) (out.map u8))]) ?_ ?_
     ·cases k4:fulN ds with
      | true =>
       rw [k4] at hF2
       repeat (first|refine zR (ja5 @stR.eq_1 iR @h256 @d1 htk9.symm) ?_|exact zU (ja5 @stR.eq_1 iR @h256 @d1 htk9.symm))
       refine Zaq _ (.inl ⟨hfrt,hF1⟩) ?_
       repeat (first|refine zR (ja3 @stR.eq_1 iR hds.symm) ?_|exact zU (ja3 @stR.eq_1 iR hds.symm))
       refine Zaq _ (.inl ⟨hfrd,hF2⟩) ?_
       repeat (first|refine zR BH7 ?_|exact zU BH7)
       refine SWp.skip ?_
       exact Zal rfl (by simp only;omega) yT (yU BH7)
      | false =>
       rw [k4] at hF2
       rw [k4,Bool.or_false] at k3
       simp only [Bool.not_eq_true',Bool.or_eq_false_iff] at k3
       rw [k3.1] at qU
       rw [k3.2] at qM
       repeat (first|refine zR (ja5 @stR.eq_1 iR @h256 @d1 htk9.symm) ?_|exact zU (ja5 @stR.eq_1 iR @h256 @d1 htk9.symm))
       refine Zaq _ (.inl ⟨hfrt,hF1⟩) ?_
       repeat (first|refine zR (ja3 @stR.eq_1 iR hds.symm) ?_|exact zU (ja3 @stR.eq_1 iR hds.symm))
       refine Zaq _ (.inl ⟨hfrd,hF2⟩) ?_
       repeat (first|refine zR (ja4 @stR.eq_1 iR @qU @qM) ?_|exact zU (ja4 @stR.eq_1 iR @qU @qM))
       refine SWp.skip ?_
       exact Zal rfl (by simp only;omega) yT (yU BH7)
     ·have m1:=Zio false tk ht15 zO hc2
      have m2:=Zio false ds hd15 zO hc3
      have hCo:=ZnK nb B zO hB2 most hm at2 zO out ho false tk.isEmpty tk zO ht15 hc2 false ds.isEmpty ds zO hd15 hc3 F zO r hrun
      obtain ⟨em1,hem1⟩:∃ em,em=tk.isEmpty:=⟨_,rfl⟩
      obtain ⟨em2,hem2⟩:∃ em,em=ds.isEmpty:=⟨_,rfl⟩
      rw [←hem1] at m1 hCo
      rw [←hem2] at m2 hCo
      repeat (first|refine zR (ja3 @stR.eq_1 iR htk9.symm) ?_|exact zU (ja3 @stR.eq_1 iR htk9.symm))
      refine Zaq _ (.inl ⟨hfrt,m1⟩) ?_
      repeat (first|refine zR (ja3 @cdG.eq_1 iR hds.symm) ?_|exact zU (ja3 @cdG.eq_1 iR hds.symm))
      refine Zaq _ (.inl ⟨hfrd,m2⟩) ?_
      repeat (first|refine zR BH11 ?_|exact zU BH11)
      refine Zab [(1000,0),(1001,0)] 20000 hCo zB zB ?_ ?_ ?_
      iterate 2 (case _=>(first|exact yU BH0|refine yR BH0 ?_))
      cases r with
      | ok o j =>
       repeat (first|refine zR BH32 ?_|exact zU BH32)
       exact ⟨⟨by rw [show 499997+(1000*F+2+1)=1000*F+500000 by omega],by omega⟩,by omega⟩
      | no e =>
       repeat (first|refine zR (ja4 @ZaF.eq_1 @ZaF.eq_2 @jkR.eq_1 iR) ?_|exact zU (ja4 @ZaF.eq_1 @ZaF.eq_2 @jkR.eq_1 iR))
       all_goals omega
  ·have de:decide ((e:Int)=0)=false:=decide_eq_false zO
   refine SWp.le (Zal (N:=190) (gc:=400100) (l:=[(0,.op 1000 0 0),(2,int (L:Int)),(3,int (D:Int)),(9,.own 9 g none 0 lens.length)]) (h:=[(1000,0,.row false (stR nb B most 0 out.length at2 e)),(9,g,.row (nl0 lens.length) (lens.map nA))]) rfl ?_ ?_ ?_) ?_
   ·show c≤400100;omega
   iterate 2 (case _=>(first|exact yU BH7|refine yR BH7 ?_))
   refine SWp.blur 1000 0 (nl:=false) (cells:=(stR nb B most 0 out.length at2 e)) (jkR e) yT (by simp only [stR,jkR,ZoY];simp) ?_
   refine SWp.le (Zal (N:=190) (gc:=400100) (l:=[(0,.op 1000 0 0),(2,int (L:Int)),(3,int (D:Int)),(9,.own 9 g none 0 lens.length)]) (h:=[(1000,0,.row false (jkR e)),(9,g,.row (nl0 lens.length) (lens.map nA))]) rfl ?_ ?_ ?_) ?_
   ·exact Nat.le_refl _
   iterate 2 (case _=>(first|exact yT|refine yS ?_))
   by_cases clt:(lens.length:Int)<((N:Nat):Int)
   ·have dlt:=decide_eq_true clt
    repeat (first|refine zR (ja7 @jkR.eq_1 @ZaF.eq_1 @ZaF.eq_2 iR @de @dlt @hadd) ?_|exact zU (ja7 @jkR.eq_1 @ZaF.eq_1 @ZaF.eq_2 iR @de @dlt @hadd))
    all_goals omega
   ·have dlt:=decide_eq_false clt
    repeat (first|refine zR (ja7 @jkR.eq_1 @ZaF.eq_1 @ZaF.eq_2 iR @de @dlt @hadd) ?_|exact zU (ja7 @jkR.eq_1 @ZaF.eq_1 @ZaF.eq_2 iR @de @dlt @hadd))
    all_goals omega
 ·have de:decide ((e5:Int)=0)=false:=decide_eq_false zO
  refine SWp.le (Zal (N:=190) (gc:=100) (l:=[(0,.op 1000 0 0)]) (h:=[(1000,0,.row false (stR nb B most 0 out.length at0 e5))]) rfl ?_ ?_ ?_) ?_
  ·show 30+k≤100;omega
  iterate 2 (case _=>(first|exact yU BH7|refine yR BH7 ?_))
  refine SWp.blur 1000 0 (nl:=false) (cells:=(stR nb B most 0 out.length at0 e5)) (jkR e5) yT (by simp only [stR,jkR,ZoY];simp) ?_
  refine SWp.le (Zal (N:=190) (gc:=100) (l:=[(0,.op 1000 0 0)]) (h:=[(1000,0,.row false (jkR e5))]) rfl ?_ ?_ ?_) ?_
  ·exact Nat.le_refl _
  iterate 2 (case _=>(first|exact yT|refine yS ?_))
  repeat (first|refine zR (ja5 @jkR.eq_1 @ZaF.eq_1 @ZaF.eq_2 iR @de) ?_|exact zU (ja5 @jkR.eq_1 @ZaF.eq_1 @ZaF.eq_2 iR @de))
  all_goals omega
theorem Ziz {ρ:Nat→Nat→Nat × Nat} {l d:List Nat}:ren ρ (.fp (.agg [.fp (.agg (trR l)) 0,.fp (.agg (trR d)) 0]) 0) = .fp (.agg [.fp (.agg (trR l)) 0,.fp (.agg (trR d)) 0]) 0:=ZbC
theorem ZaT:fxA true=cds ZnH Zoy:=rfl
theorem ZeI:fxA false = .sc (.pointer none):=rfl
theorem ZpY {l d:List Nat}:Zat (cds l d)=some [cds l d]:=rfl
def ZBH (b:List UInt8) (i:Nat):Bool:=decide (i+3≤8*b.length)&&decide (ZaG b i 3 % 2=1)
def ZeJ (b:List UInt8) (i:Nat):BR (Bool × List UInt8)→AV
 | .ok p _=>.tup [boo p.1,int 0]
 | .no e=>.tup [boo (ZBH b i),int (e:Int)]
def fxN (t:Bool) (b:List UInt8) (i:Nat):Bool:=t || decide (ZaG b i 3 / 2=1)
def ZeK (K:Nat) (t:Bool) (most:Nat) (nl:Bool) (b:List UInt8) (i:Nat):BR (Bool × List UInt8)→List (Nat × Nat × AO)
 | .ok p j=>unO K (fxN t b i) most nl b j p.2
 | .no _=>[]
def KB (F:Nat):Nat:=1000*F+700000
def BH15:=ja8 @ZbV.eq_1 @ZbV.eq_2 @ZbW.eq_1 @ZbW.eq_2 @unO.eq_1 @unR.eq_1 @rdR.eq_1 (ja2 @Zaa @ZbC)
def BH16:=ja3 @unR.eq_1 @rdR.eq_1 @ZaT
def BH17:=ja7 @ZbN @ZbO @unR.eq_1 @rdR.eq_1 @Zaa @ZbC @ZaT
def BH33:=ja6 @unI.eq_1 @unR.eq_1 @rdR.eq_1 @Ziz @ZaT @cds.eq_1
def BH34:=ja8 @ZbV.eq_1 @ZbV.eq_2 @ZbW.eq_1 @ZbW.eq_2 @unO.eq_1 @unR.eq_1 @rdR.eq_1 (ja3 @ZaT @cds.eq_1 @Ziz)
def BH35:=ja4 @unR.eq_1 @rdR.eq_1 @ZaT @cds.eq_1
def BH36:=ja7 @ZbN @ZbO @unR.eq_1 @rdR.eq_1 @ZaT @cds.eq_1 @Ziz
def BH37:=ja5 @unI.eq_1 @unR.eq_1 @rdR.eq_1 @ZbC @ZaT
def BH38:=ja8 @Zd2.eq_1 @Zd2.eq_2 @Zbi.eq_1 @Zbi.eq_2 @unO.eq_1 @unR.eq_1 @rdR.eq_1 (ja2 @Zaa @ZbC)
def BH39:=ja5 @unI.eq_1 @unR.eq_1 @rdR.eq_1 @Zaa @ZbC
set_option maxHeartbeats 2000000 in
theorem ZrH [Tabs Tryz.prog] (ht:Tabs.tab Tryz.prog 1=some (Zim.map nA)) (t:Bool) (most:Nat) (hm:most≤16777216) (nl:Bool) (b:List UInt8) (hb:b.length≤1000000) (hnl:nl=true→b=[]) (i:Nat) (hi:i≤8*b.length) (out:List UInt8) (ho:out.length≤most) (F:Nat) (hF:8*b.length<F) (r:BR (Bool × List UInt8)) (hr:(ZoX most F out).run (Zae b) i=r) :
  HCon Tryz.prog ZbK [.op 1000 0 0] (unI t most nl b i out) (ZeJ b i r) (ZeK (KB F) t most nl b i r) (KB F+1):=by
 refine HCon.of' mix Tryz.func20 rfl Tryz.ntmps20 Zdt Zdu zB (by simp [AV.gl,AV.gl.glL,int]) Zem ?_
 unfold ZbL
 rw [ZoX,Zak,Zdq hi] at hr
 by_cases c1:i+3≤8*b.length
 ·rw [if_pos c1] at hr
  simp only [BR.bnd] at hr
  rw [Zak] at hr
  have hT:=Zdo nl b hb i hi 3 zO c1
  have h7:=ZwO (b:=b) (i:=i)
  have hbit:ZBH b i=decide (ZaG b i 3 % 2=1):=by rw [ZBH,decide_eq_true c1,Bool.true_and]
  have hfx:fxN t b i=(t || decide (ZaG b i 3 / 2=1)):=rfl
  obtain ⟨h,hh⟩:∃ h,h=ZaG b i 3:=⟨_,rfl⟩
  rw [←hh] at hT hr h7 hbit hfx
  have hlast:decide (((h % 2:Nat):Int)=1)=decide (h % 2=1):=decide_eq_decide.2 zO
  have hl2:decide ((h:Int)=1)=decide (h=1):=decide_eq_decide.2 zO
  repeat (first|refine zR BH9 ?_|exact zU BH9)
  refine Zab [(1001,0)] 2000 hT zB zB ?_ ?_ ?_
  iterate 2 (case _=>(first|exact yU @rdR.eq_1|refine yR @rdR.eq_1 ?_))
  have hse:=fun e (q:(Zrx most F out (h / 2)).run (Zae b) (i+3) = .no e)=>Zeo ZoD q
  obtain ⟨r1,hr1⟩:∃ r1,(Zrx most F out (h / 2)).run (Zae b) (i+3)=r1:=⟨_,rfl⟩
  rw [hr1] at hr hse
  rw [Zrx] at hr1
  obtain ⟨p,hp⟩:∃ p,p=h / 2:=⟨_,rfl⟩
  rw [←hp] at hr1 hfx
  by_cases k0:p=0
  ·rw [if_pos k0] at hr1
   subst k0
   have hfx:fxN t b i=t:=by rw [hfx];simp
   have hS:=Zlp t most hm nl b hb hnl (i+3) c1 out ho r1 hr1
   repeat (first|refine zR (ja4 @unR.eq_1 @rdR.eq_1 hp.symm @Nat.pow_one) ?_|exact zU (ja4 @unR.eq_1 @rdR.eq_1 hp.symm @Nat.pow_one))
   refine Zab [(1000,0),(1001,0),(1002,0)] 3000 hS zB zB ?_ ?_ ?_
   iterate 2 (case _=>(first|exact yU BH2|refine yR BH2 ?_))
   cases r1 with
   | no e =>
    simp only [BR.bnd] at hr
    subst hr
    repeat (first|refine zR (ja8 @ZbV.eq_1 @ZbV.eq_2 @ZbW.eq_1 @ZbW.eq_2 @ZeJ.eq_1 @ZeJ.eq_2 @ZeK.eq_1 (ja4 @ZeK.eq_2 @hlast @hl2 @hbit)) ?_|exact zU (ja8 @ZbV.eq_1 @ZbV.eq_2 @ZbW.eq_1 @ZbW.eq_2 @ZeJ.eq_1 @ZeJ.eq_2 @ZeK.eq_1 (ja4 @ZeK.eq_2 @hlast @hl2 @hbit)))
    simp only [KB];omega
   | ok o j =>
    simp only [BR.bnd,BT.run] at hr
    subst hr
    iterate 1 (first|refine zR BH15 ?_|exact zU BH15)
    refine SWp.le (Zal (N:=56) (gc:=KB F) (l:=[(3,int 0),(4,int (h:Int))]) (h:=[(1000,0,.row false (unR t most 104 o.length)),(1001,0,.row false (rdR nl b j)),(1002,104,.row (nl0 o.length) (o.map u8))]) rfl ?_ ?_ ?_) ?_
    ·simp only [KB];omega
    iterate 2 (case _=>(first|exact yU BH16|refine yR BH16 ?_))
    refine SWp.renew 1002 104 (o:=.row (nl0 o.length) (o.map u8)) yT ?_
    refine SWp.le (Zal (N:=56) (gc:=KB F+1) (l:=[(3,int 0),(4,int (h:Int))]) (h:=[(1000,0,.row false (unR t most (KB F) o.length)),(1001,0,.row false (rdR nl b j)),(1002,KB F,.row (nl0 o.length) (o.map u8))]) rfl ?_ ?_ ?_) ?_
    ·exact Nat.le_refl _
    iterate 2 (case _=>(first|exact yU BH17|refine yR BH17 ?_))
    repeat (first|refine zR (ja8 @ZeJ.eq_1 @ZeJ.eq_2 @ZeK.eq_1 @ZeK.eq_2 @unO.eq_1 @unR.eq_1 @rdR.eq_1 (ja3 @hfx @hlast @hl2)) ?_|exact zU (ja8 @ZeJ.eq_1 @ZeJ.eq_2 @ZeK.eq_1 @ZeK.eq_2 @unO.eq_1 @unR.eq_1 @rdR.eq_1 (ja3 @hfx @hlast @hl2)))
  ·rw [if_neg k0] at hr1
   have d0:decide ((p:Int)=0)=false:=decide_eq_false zO
   by_cases k1:p=1
   ·rw [if_pos k1] at hr1
    subst k1
    have hfx:fxN t b i=true:=by rw [hfx];simp
    have hS:=Zko true most hm nl b hb (i+3) c1 out ho ZnH Zoy (by rw [Zbk.2.1];omega) (by rw [Zbk.2.2];omega) (by rw [Zbx.2.1];omega) (by rw [Zbx.2.2];omega) F zO r1 hr1
    cases t with
    | true =>
     repeat (first|refine zR (ja6 @unR.eq_1 @rdR.eq_1 hp.symm @Nat.pow_one @ZaT @cds.eq_1) ?_|exact zU (ja6 @unR.eq_1 @rdR.eq_1 hp.symm @Nat.pow_one @ZaT @cds.eq_1))
     refine Zab [(1000,0),(1001,0),(1002,0)] 3000 hS zB zB ?_ ?_ ?_
     iterate 2 (case _=>(first|exact yU BH33|refine yR BH33 ?_))
     cases r1 with
     | no e =>
      simp only [BR.bnd] at hr
      subst hr
      repeat (first|refine zR (ja8 @ZbV.eq_1 @ZbV.eq_2 @ZbW.eq_1 @ZbW.eq_2 @ZeJ.eq_1 @ZeJ.eq_2 @ZeK.eq_1 (ja4 @ZeK.eq_2 @hlast @hl2 @hbit)) ?_|exact zU (ja8 @ZbV.eq_1 @ZbV.eq_2 @ZbW.eq_1 @ZbW.eq_2 @ZeJ.eq_1 @ZeJ.eq_2 @ZeK.eq_1 (ja4 @ZeK.eq_2 @hlast @hl2 @hbit)))
      simp only [KB];omega
     | ok o j =>
      simp only [BR.bnd,BT.run] at hr
      subst hr
      iterate 1 (first|refine zR BH34 ?_|exact zU BH34)
      refine SWp.le (Zal (N:=56) (gc:=KB F) (l:=[(3,int 0),(4,int (h:Int))]) (h:=[(1000,0,.row false (unR true most ((31+(1000*F+1))) o.length)),(1001,0,.row false (rdR nl b j)),(1002,(31+(1000*F+1)),.row (nl0 o.length) (o.map u8))]) rfl ?_ ?_ ?_) ?_
      ·simp only [KB];omega
      iterate 2 (case _=>(first|exact yU BH35|refine yR BH35 ?_))
      refine SWp.renew 1002 ((31+(1000*F+1))) (o:=.row (nl0 o.length) (o.map u8)) yT ?_
      refine SWp.le (Zal (N:=56) (gc:=KB F+1) (l:=[(3,int 0),(4,int (h:Int))]) (h:=[(1000,0,.row false (unR true most (KB F) o.length)),(1001,0,.row false (rdR nl b j)),(1002,KB F,.row (nl0 o.length) (o.map u8))]) rfl ?_ ?_ ?_) ?_
      ·exact Nat.le_refl _
      iterate 2 (case _=>(first|exact yU BH36|refine yR BH36 ?_))
      repeat (first|refine zR (ja8 @ZeJ.eq_1 @ZeJ.eq_2 @ZeK.eq_1 @ZeK.eq_2 @unO.eq_1 @unR.eq_1 @rdR.eq_1 (ja5 @ZaT @cds.eq_1 @hfx @hlast @hl2)) ?_|exact zU (ja8 @ZeJ.eq_1 @ZeJ.eq_2 @ZeK.eq_1 @ZeK.eq_2 @unO.eq_1 @unR.eq_1 @rdR.eq_1 (ja5 @ZaT @cds.eq_1 @hfx @hlast @hl2)))
    | false =>
     repeat (first|refine zR (ja5 @unR.eq_1 @rdR.eq_1 hp.symm @Nat.pow_one @ZeI) ?_|exact zU (ja5 @unR.eq_1 @rdR.eq_1 hp.symm @Nat.pow_one @ZeI))
     refine Zaq _ (.inl ⟨rfl,ZlJ⟩) ?_
     repeat (first|refine zR (ja3 @unR.eq_1 @rdR.eq_1 @ZpY) ?_|exact zU (ja3 @unR.eq_1 @rdR.eq_1 @ZpY))
     refine Zab [(1000,0),(1001,0),(1002,0)] 3000 hS zB zB ?_ ?_ ?_
     iterate 2 (case _=>(first|exact yU BH37|refine yR BH37 ?_))
     cases r1 with
     | no e =>
      simp only [BR.bnd] at hr
      subst hr
      repeat (first|refine zR (ja8 @ZbV.eq_1 @ZbV.eq_2 @ZbW.eq_1 @ZbW.eq_2 @ZeJ.eq_1 @ZeJ.eq_2 @ZeK.eq_1 (ja4 @ZeK.eq_2 @hlast @hl2 @hbit)) ?_|exact zU (ja8 @ZbV.eq_1 @ZbV.eq_2 @ZbW.eq_1 @ZbW.eq_2 @ZeJ.eq_1 @ZeJ.eq_2 @ZeK.eq_1 (ja4 @ZeK.eq_2 @hlast @hl2 @hbit)))
      simp only [KB];omega
     | ok o j =>
      simp only [BR.bnd,BT.run] at hr
      subst hr
      iterate 1 (first|refine zR BH15 ?_|exact zU BH15)
      refine SWp.le (Zal (N:=56) (gc:=KB F) (l:=[(3,int 0),(4,int (h:Int))]) (h:=[(1000,0,.row false (unR true most ((31+(1000*F+1))) o.length)),(1001,0,.row false (rdR nl b j)),(1002,(31+(1000*F+1)),.row (nl0 o.length) (o.map u8))]) rfl ?_ ?_ ?_) ?_
      ·simp only [KB];omega
      iterate 2 (case _=>(first|exact yU BH16|refine yR BH16 ?_))
      refine SWp.renew 1002 ((31+(1000*F+1))) (o:=.row (nl0 o.length) (o.map u8)) yT ?_
      refine SWp.le (Zal (N:=56) (gc:=KB F+1) (l:=[(3,int 0),(4,int (h:Int))]) (h:=[(1000,0,.row false (unR true most (KB F) o.length)),(1001,0,.row false (rdR nl b j)),(1002,KB F,.row (nl0 o.length) (o.map u8))]) rfl ?_ ?_ ?_) ?_
      ·exact Nat.le_refl _
      iterate 2 (case _=>(first|exact yU BH17|refine yR BH17 ?_))
      repeat (first|refine zR (ja8 @ZeJ.eq_1 @ZeJ.eq_2 @ZeK.eq_1 @ZeK.eq_2 @unO.eq_1 @unR.eq_1 @rdR.eq_1 (ja3 @hfx @hlast @hl2)) ?_|exact zU (ja8 @ZeJ.eq_1 @ZeJ.eq_2 @ZeK.eq_1 @ZeK.eq_2 @unO.eq_1 @unR.eq_1 @rdR.eq_1 (ja3 @hfx @hlast @hl2)))
   ·rw [if_neg k1] at hr1
    have d1:decide ((p:Int)=1)=false:=decide_eq_false zO
    rw [decide_eq_false k1,Bool.or_false] at hfx
    by_cases k2:p=2
    ·rw [if_pos k2] at hr1
     subst k2
     rw [Zak] at hr1
     have hTo:=ZmK ht t most nl b hb (i+3) c1 out _ rfl
     have hTi:=fun a j (q:Zrw.run (Zae b) (i+3) = .ok a j)=>And.intro ((Zhb q).2 (by rw [Zad];exact c1)) (ZBd c1 q)
     have hTs:=fun e (q:Zrw.run (Zae b) (i+3) = .no e)=>Zeo Zss q
     obtain ⟨r2,hr2⟩:∃ r2,r2=Zrw.run (Zae b) (i+3):=⟨_,rfl⟩
     rw [←hr2] at hTo hTi hTs hr1
     repeat (first|refine zR (ja6 @unR.eq_1 @rdR.eq_1 hp.symm @Nat.pow_one @d0 @d1) ?_|exact zU (ja6 @unR.eq_1 @rdR.eq_1 hp.symm @Nat.pow_one @d0 @d1))
     refine Zab [(1000,0),(1001,0),(1002,0)] 3000 hTo zB zB ?_ ?_ ?_
     iterate 2 (case _=>(first|exact yU BH2|refine yR BH2 ?_))
     cases r2 with
     | no e =>
      have he:=hTs e rfl
      have de:decide ((e:Int)=0)=false:=decide_eq_false zO
      simp only [BR.bnd] at hr1
      subst hr1
      simp only [BR.bnd] at hr
      subst hr
      repeat (first|refine zR (ja8 @Zd2.eq_1 @Zd2.eq_2 @Zbi.eq_1 @Zbi.eq_2 @ZeJ.eq_1 @ZeJ.eq_2 @ZeK.eq_1 (ja5 @ZeK.eq_2 @hlast @hl2 @hbit @de)) ?_|exact zU (ja8 @Zd2.eq_1 @Zd2.eq_2 @Zbi.eq_1 @Zbi.eq_2 @ZeJ.eq_1 @ZeJ.eq_2 @ZeK.eq_1 (ja5 @ZeK.eq_2 @hlast @hl2 @hbit @de)))
      simp only [KB];omega
     | ok q j2 =>
      obtain ⟨hj2,hl,hKl,hd,hKd⟩:=hTi q j2 rfl
      rw [Zad] at hj2
      simp only [BR.bnd] at hr1
      have hS:=Zko t most hm nl b hb j2 hj2 out ho q.1 q.2 hl hKl hd hKd F zO r1 hr1
      repeat (first|refine zR BH38 ?_|exact zU BH38)
      refine Zab [(1000,0),(1001,0),(1002,0)] 4000 hS zB zB ?_ ?_ ?_
      iterate 2 (case _=>(first|exact yU BH39|refine yR BH39 ?_))
      cases r1 with
      | no e =>
       simp only [BR.bnd] at hr
       subst hr
       repeat (first|refine zR (ja8 @ZbV.eq_1 @ZbV.eq_2 @ZbW.eq_1 @ZbW.eq_2 @ZeJ.eq_1 @ZeJ.eq_2 @ZeK.eq_1 (ja4 @ZeK.eq_2 @hlast @hl2 @hbit)) ?_|exact zU (ja8 @ZbV.eq_1 @ZbV.eq_2 @ZbW.eq_1 @ZbW.eq_2 @ZeJ.eq_1 @ZeJ.eq_2 @ZeK.eq_1 (ja4 @ZeK.eq_2 @hlast @hl2 @hbit)))
       simp only [KB];omega
      | ok o j =>
       simp only [BR.bnd,BT.run] at hr
       subst hr
       iterate 1 (first|refine zR BH15 ?_|exact zU BH15)
       refine SWp.le (Zal (N:=56) (gc:=KB F) (l:=[(3,int 0),(4,int (h:Int))]) (h:=[(1000,0,.row false (unR t most ((600031+(1000*F+1))) o.length)),(1001,0,.row false (rdR nl b j)),(1002,(600031+(1000*F+1)),.row (nl0 o.length) (o.map u8))]) rfl ?_ ?_ ?_) ?_
       ·simp only [KB];omega
       iterate 2 (case _=>(first|exact yU BH16|refine yR BH16 ?_))
       refine SWp.renew 1002 ((600031+(1000*F+1))) (o:=.row (nl0 o.length) (o.map u8)) yT ?_
       refine SWp.le (Zal (N:=56) (gc:=KB F+1) (l:=[(3,int 0),(4,int (h:Int))]) (h:=[(1000,0,.row false (unR t most (KB F) o.length)),(1001,0,.row false (rdR nl b j)),(1002,KB F,.row (nl0 o.length) (o.map u8))]) rfl ?_ ?_ ?_) ?_
       ·exact Nat.le_refl _
       iterate 2 (case _=>(first|exact yU BH17|refine yR BH17 ?_))
       repeat (first|refine zR (ja8 @ZeJ.eq_1 @ZeJ.eq_2 @ZeK.eq_1 @ZeK.eq_2 @unO.eq_1 @unR.eq_1 @rdR.eq_1 (ja3 @hfx @hlast @hl2)) ?_|exact zU (ja8 @ZeJ.eq_1 @ZeJ.eq_2 @ZeK.eq_1 @ZeK.eq_2 @unO.eq_1 @unR.eq_1 @rdR.eq_1 (ja3 @hfx @hlast @hl2)))
    ·rw [if_neg k2] at hr1
     simp only [BT.run] at hr1
     subst hr1
     simp only [BR.bnd] at hr
     subst hr
     have d2:decide ((p:Int)=2)=false:=decide_eq_false zO
     repeat (first|refine zR (ja8 @unR.eq_1 @rdR.eq_1 hp.symm @Nat.pow_one @d0 @d1 @d2 (ja7 @ZeJ.eq_1 @ZeJ.eq_2 @ZeK.eq_1 @ZeK.eq_2 @hlast @hl2 @hbit)) ?_|exact zU (ja8 @unR.eq_1 @rdR.eq_1 hp.symm @Nat.pow_one @d0 @d1 @d2 (ja7 @ZeJ.eq_1 @ZeJ.eq_2 @ZeK.eq_1 @ZeK.eq_2 @hlast @hl2 @hbit)))
     simp only [KB];omega
 ·rw [if_neg c1] at hr
  simp only [BR.bnd] at hr
  subst hr
  have hbit:ZBH b i=false:=by rw [ZBH,decide_eq_false c1,Bool.false_and]
  have hT:=Zdw nl b hb i hi 3 (decide_eq_false zO)
  repeat (first|refine zR BH9 ?_|exact zU BH9)
  refine Zab [(1001,0)] 2000 hT zB zB ?_ ?_ ?_
  iterate 2 (case _=>(first|exact yU @rdR.eq_1|refine yR @rdR.eq_1 ?_))
  repeat (first|refine zR (ja7 @unR.eq_1 @rdR.eq_1 @ZeJ.eq_1 @ZeJ.eq_2 @ZeK.eq_1 @ZeK.eq_2 @hbit) ?_|exact zU (ja7 @unR.eq_1 @rdR.eq_1 @ZeJ.eq_1 @ZeJ.eq_2 @ZeK.eq_1 @ZeK.eq_2 @hbit))
  simp only [KB];omega
theorem ZwU {p q r:Nat × Nat} {hs:List (Nat × Nat)} {D c g:Nat} (h:g≠0):rho (p::q::r::hs) D c 1002 g=(r.1,c+g):=by simp [rho,Za9,h]
theorem ZwV {b:List UInt8} {l d:List Nat} {most:Nat}:∀ {f:Nat} {out o:List UInt8} {i j:Nat},out.length≤most→(ZnG l d most f out).run (Zae b) i = .ok o j→o.length≤most:=by
 intro f
 induction f with
 | zero=>intro out o i j _ h;simp [ZnG,BT.run] at h
 | succ f ih =>
  intro out o i j ho h
  rw [ZnG,Zak] at h
  cases h1:(ZuI l 15 0 0).run (Zae b) i with
  | no e=>rw [h1] at h;cases h
  | ok s k =>
   rw [h1] at h
   simp only [BR.bnd] at h
   by_cases c:s<256
   ·rw [if_pos c] at h
    by_cases c2:most≤out.length
    ·rw [if_pos c2] at h;simp [BT.run] at h
    ·rw [if_neg c2] at h
     exact ih (by rw [List.length_append,List.length_singleton];omega) h
   ·rw [if_neg c] at h
    by_cases c2:s=256
    ·rw [if_pos c2] at h
     simp only [BT.run,BR.ok.injEq] at h
     rw [←h.1];exact ho
    ·rw [if_neg c2,Zak] at h
     cases h2:(ZuJ most d out (s-257)).run (Zae b) k with
     | no e=>rw [h2] at h;cases h
     | ok o2 k2 =>
      rw [h2] at h
      exact ih (ZwA h2) h
theorem Zy0 {b:List UInt8} {n:Nat}:∀ {bs:List UInt8} {i j:Nat},(Zso n).run (Zae b) i = .ok bs j→bs.length=n:=by
 induction n with
 | zero=>intro bs i j h;simp only [Zso,BT.run,BR.ok.injEq] at h;rw [←h.1];rfl
 | succ n ih =>
  intro bs i j h
  rw [Zso,Zak] at h
  cases h1:(Zi6 8).run (Zae b) i with
  | no e=>rw [h1] at h;cases h
  | ok x k =>
   rw [h1] at h
   simp only [BR.bnd,Zak] at h
   cases h2:(Zso n).run (Zae b) k with
   | no e=>rw [h2] at h;cases h
   | ok r k2 =>
    have:=ih h2
    rw [h2] at h
    simp only [BR.bnd,BT.run,BR.ok.injEq] at h
    rw [←h.1,List.length_cons,this]
theorem ZBi {b:List UInt8} {most F h:Nat} {out o:List UInt8} {i j:Nat} (ho:out.length≤most) (q:(Zrx most F out h).run (Zae b) i = .ok o j):o.length≤most:=by
 unfold Zrx at q
 split at q
 ·simp only [ZuK,BT.run,Zak] at q
  cases h1:(Zi6 ((i+7) / 8*8-i)).run (Zae b) i with
  | no e=>rw [h1] at q;cases q
  | ok s k =>
   rw [h1] at q
   simp only [BR.bnd,Zak] at q
   cases h2:(Zi6 16).run (Zae b) k with
   | no e=>rw [h2] at q;cases q
   | ok n k2 =>
    rw [h2] at q
    simp only [BR.bnd,Zak] at q
    cases h3:(Zi6 16).run (Zae b) k2 with
    | no e=>rw [h3] at q;cases q
    | ok m k3 =>
     rw [h3] at q
     simp only [BR.bnd] at q
     split at q
     ·simp [BT.run] at q
     ·rw [Zak] at q
      cases h4:(Zso n).run (Zae b) k3 with
      | no e=>rw [h4] at q;cases q
      | ok bs k4 =>
       have hl:=Zy0 h4
       rw [h4] at q
       simp only [BR.bnd] at q
       split at q
       ·simp [BT.run] at q
       ·simp only [BT.run,BR.ok.injEq] at q
        rw [←q.1,List.length_append];omega
 ·split at q
  ·exact ZwV ho q
  ·split at q
   ·rw [Zak] at q
    cases h1:Zrw.run (Zae b) i with
    | no e=>rw [h1] at q;cases q
    | ok p k=>rw [h1] at q;exact ZwV ho q
   ·simp [BT.run] at q
theorem ZrI {b:List UInt8} {most F i j:Nat} {out:List UInt8} {p:Bool × List UInt8} (hi:i≤8*b.length) (ho:out.length≤most) (h:(ZoX most F out).run (Zae b) i = .ok p j):i<j∧j≤8*b.length∧p.2.length≤most:=by
 have hj:=(Zhb h).2 (by rw [Zad];exact hi)
 rw [Zad] at hj
 rw [ZoX,Zak,Zdq hi] at h
 split at h
 ·simp only [BR.bnd] at h
  rw [Zak] at h
  cases h1:(Zrx most F out (ZaG b i 3 / 2)).run (Zae b) (i+3) with
  | no e=>rw [h1] at h;cases h
  | ok o k =>
   have h2:=(Zhb h1).1
   rw [h1] at h
   simp only [BR.bnd,BT.run,BR.ok.injEq] at h
   obtain ⟨rfl,rfl⟩:=h
   exact ⟨by omega,hj,ZBi ho h1⟩
 ·cases h
def Zqj (F:Nat) (b:List UInt8) (most:Int):List UInt8 × Nat × Nat:=if most<0∨16777216<most then ([],0,1) else ZoA F b most.toNat
def Zxt (r:List UInt8 × Nat × Nat):AV:=if r.2.2=0 then .tup [.sl (nl0 r.1.length) none (r.1.map u8),int (r.2.1:Int),int 0] else .tup [.sc (.slice none 0 0),int 0,int (r.2.2:Int)]
theorem ZwW {r:List UInt8 × Nat × Nat}:(Zxt r).free=true:=by
 unfold Zxt
 by_cases c:r.2.2=0
 ·rw [if_pos c];simp only [AV.free,AV.free.freeL,Zag,int,Bool.and_self]
 ·rw [if_neg c];rfl
def BH40:=ja2 @List.set_cons_zero.{0} @List.set_cons_succ.{0}
set_option maxHeartbeats 2000000 in
theorem ZoM [Tabs Tryz.prog] (ht:Tabs.tab Tryz.prog 1=some (Zim.map nA)) (nl:Bool) (b:List UInt8) (hb:b.length≤1000000) (hnl:nl=true→b=[]) (most:Int) (F:Nat) (hF:8*b.length<F) :
  Con Tryz.prog Za5 [.sl nl none (b.map u8),int most] (Zxt (Zqj F b most)):=by
 refine Con.of' mix Tryz.func7 rfl Tryz.ntmps7 ZgW ZgX zB (by simp only [AV.free,AV.free.freeL,Zag,int,Bool.and_self]) ZwW ?_
 unfold Zej
 by_cases c1:most<0
 ·have d1:=decide_eq_true c1
  rw [show Zxt (Zqj F b most) = .tup [.sc (.slice none 0 0),int 0,int 1] by rw [Zqj,if_pos (.inl c1)];rfl]
  repeat (first|refine zR @d1 ?_|exact zU @d1)
 have d1:=decide_eq_false c1
 by_cases c2:16777216<most
 ·have d2:=decide_eq_true c2
  rw [show Zxt (Zqj F b most) = .tup [.sc (.slice none 0 0),int 0,int 1] by rw [Zqj,if_pos (.inr c2)];rfl]
  repeat (first|refine zR (ja2 @d1 @d2) ?_|exact zU (ja2 @d1 @d2))
 have d2:=decide_eq_false c2
 rw [show Zqj F b most=ZoA F b most.toNat by rw [Zqj,if_neg zO]]
 obtain ⟨m,hm⟩:∃ m:Nat,most=(m:Int):=⟨most.toNat,by omega⟩
 subst hm
 rw [Int.toNat_natCast]
 have hm:m≤16777216:=zO
 obtain ⟨r,hr⟩:∃ r,(Zoz m F F []).run (Zae b) 0=r:=⟨_,rfl⟩
 have hse:=fun e (q:(Zoz m F F []).run (Zae b) 0 = .no e)=>Zeo (ZoE _ _) q
 rw [hr] at hse
 rw [ZoA,hr]
 repeat (first|refine zR (ja2 @d1 @d2) ?_|exact zU (ja2 @d1 @d2))
 refine Zab [] 2000 (ZhQ nl b hb hnl) zB zB ?_ ?_ ?_
 iterate 2 (case _=>(first|exact yT|refine yS ?_))
 iterate 1 (first|refine zR @rdR.eq_1 ?_|exact zU @rdR.eq_1)
 refine SWp.adoptC 19 2 1 100 none (nl:=false) (cells:=[.op 2006 1 0,.sc (.slice none 0 0),int (m:Int),.sc (.pointer none)]) yT rfl (by decide) ?_
 repeat (first|refine zR BH40 ?_|exact zU BH40)
 refine SWp.loop (α:=Nat × List UInt8 × Nat × Bool × Nat × Nat × Bool) (fun x=>mk 54 x.2.2.2.2.2.1 [(7,.op 19 2 0),(8,boo x.2.2.2.2.2.2)] [(2006,1,.row false (rdR nl b x.2.2.1)),(19,2,.row false [.op 2006 1 0,.own 100 x.2.2.2.2.1 none 0 x.2.1.length,int (m:Int),fxA x.2.2.2.1]),(100,x.2.2.2.2.1,.row (nl0 x.2.1.length) (x.2.1.map u8))])
  (fun x=>(if x.2.2.2.2.2.2=true then BR.ok x.2.1 x.2.2.1 else (Zoz m F x.1 x.2.1).run (Zae b) x.2.2.1)=r∧x.2.2.1≤8*b.length∧8*b.length-x.2.2.1<x.1∧x.2.1.length≤m) (fun x=>x.1+(if x.2.2.2.2.2.2=true then 0 else 1)) (F,[],0,false,3,4,false) ⟨hr,Nat.zero_le _,by simp only;omega,Nat.zero_le _⟩ (Zal rfl ?_ ?_ ?_) ?_
 ·exact Nat.le_refl _
 iterate 2 (case _=>(first|exact yU (ja3 @rdR.eq_1 @ZeI @Zay)|refine yR (ja3 @rdR.eq_1 @ZeI @Zay) ?_))
 rintro ⟨f,o,i,t,g,c,last⟩ ⟨hx,hi,hf,ho⟩ -
 simp only at hx hi hf ho
 cases last with
 | true =>
  simp only [if_true] at hx
  subst hx
  obtain ⟨w,hw⟩:∃ w,w=i+7:=⟨_,rfl⟩
  have ew:(i:Int)+8-1=(w:Int):=zO
  have hg:Zxt (o,(i+7) / 8,0) = .tup [.sl (nl0 o.length) none (o.map u8),int (((i+7) / 8:Nat):Int),int 0]:=rfl
  simp only [Zzy]
  rw [hg,←hw]
  repeat (first|refine zS ?_|exact zT)
  refine Zab [(2006,1)] 3000 (ZpG nl b i) zB zB ?_ ?_ ?_
  iterate 2 (case _=>(first|exact yU @rdR.eq_1|refine yR @rdR.eq_1 ?_))
  repeat (first|refine zR (ja2 @rdR.eq_1 @ew) ?_|exact zU (ja2 @rdR.eq_1 @ew))
  all_goals trace_state
 | false =>
  rw [if_neg zB] at hx
  obtain ⟨f,rfl⟩:∃ f',f=f'+1:=⟨f-1,by omega⟩
  rw [Zoz,Zak] at hx
  have hB:=ZrH ht t m hm nl b hb hnl i hi o ho F hF _ rfl
  have hBi:=fun p j (q:(ZoX m F o).run (Zae b) i = .ok p j)=>ZrI hi ho q
  have hBs:=fun e (q:(ZoX m F o).run (Zae b) i = .no e)=>Zeo Zst q
  obtain ⟨r1,hr1⟩:∃ r1,r1=(ZoX m F o).run (Zae b) i:=⟨_,rfl⟩
  rw [←hr1] at hB hBi hBs hx
  obtain ⟨t2,ht2⟩:∃ t2,t2=fxN t b i:=⟨_,rfl⟩
  obtain ⟨b2,hb2⟩:∃ b2,b2=ZBH b i:=⟨_,rfl⟩
  repeat (first|refine zS ?_|exact zT)
  refine Zab [(19,2),(2006,1),(100,g)] 3000 hB zB zB ?_ ?_ ?_
  iterate 2 (case _=>(first|exact yU BH2|refine yR BH2 ?_))
  cases r1 with
  | no e =>
   simp only [BR.bnd] at hx
   subst hx
   have he:=hBs e rfl
   have de:decide ((e:Int)=0)=false:=decide_eq_false zO
   have hg:Zxt ([],0,e) = .tup [.sc (.slice none 0 0),int 0,int (e:Int)]:=by rw [Zxt,if_neg (by simp only;omega)]
   simp only [Zzy]
   rw [hg]
   repeat (first|refine zR (ja6 @ZeJ.eq_1 @ZeJ.eq_2 @ZeK.eq_1 @ZeK.eq_2 hb2.symm @de) ?_|exact zU (ja6 @ZeJ.eq_1 @ZeJ.eq_2 @ZeK.eq_1 @ZeK.eq_2 hb2.symm @de))
   all_goals trace_state
  | ok p j =>
   obtain ⟨hij,hj,hp⟩:=hBi p j rfl
   have hKB:KB F≠0:=by simp only [KB];omega
   simp only [BR.bnd] at hx
   repeat (first|refine zR (ja8 @ZeJ.eq_1 @ZeJ.eq_2 @ZeK.eq_1 @ZeK.eq_2 @unO.eq_1 @unR.eq_1 @rdR.eq_1 (ja3 @Zaa ht2.symm @ZwU)) ?_|exact zU (ja8 @ZeJ.eq_1 @ZeJ.eq_2 @ZeK.eq_1 @ZeK.eq_2 @unO.eq_1 @unR.eq_1 @rdR.eq_1 (ja3 @Zaa ht2.symm @ZwU)))
   refine At.of (f,p.2,j,t2,c+KB F,c+(KB F+1),p.1) ⟨?_,hj,by simp only;omega,hp⟩ ?_ rfl rfl (Nat.le_refl _) ?_ ?_
   ·simp only
    rw [←hx]
    cases h1:p.1 <;> simp [BT.run]
   ·simp only
    cases p.1 with
    | true=>show f+0<f+1+1;omega
    | false=>show f+1<f+1+1;omega
   iterate 2 (case _=>(first|exact yU @rdR.eq_1|refine yR @rdR.eq_1 ?_))
end Go.Proofs.YtfplkgciebjehabGreatDoor.Aw
