/- Parts of the proof of GzipBack. -/
import Derived.Test.YtbcncdpaigljeaaGreatDoorQGzipBackBF
namespace Go.Proofs.YtbcncdpaigljeaaGreatDoor.Aw
open Go
set_option linter.unusedSimpArgs false
set_option linter.unusedVariables false
def u64 (n:Nat):AV:=.sc (.int .u64 (n:Int))
theorem ZsN [Tabs Tryz.prog] (k:Nat) (hk:k<1000000):Con Tryz.prog ZmY [.sc (.int .u64 1),.sc (.int .u64 (k:Int))] (.tup [.sc (.int .u64 0),.sc (.int .u64 (k:Int))]):=by
 refine Con.of' mix Tryz.func148 rfl Tryz.ntmps148 Zss Zst (by simp) rfl rfl ?_
 unfold Zm4
 have h1:k&&&4294967295=k:=by
  have:=Nat.and_two_pow_sub_one_eq_mod k 32
  simp only [Nat.reducePow,Nat.reduceSub] at this
  rw [this,Nat.mod_eq_of_lt (by omega)]
 have h2:k / 4294967296=0:=Nat.div_eq_of_lt (by omega)
 repeat (first | refine xR (ja5 @h1 @h2 @Zbi @Int.one_mul @Int.zero_mul) ?_ | exact xU (ja5 @h1 @h2 @Zbi @Int.one_mul @Int.zero_mul))
theorem Zyg [Tabs Tryz.prog] (k:Nat) (hk:k<1000000):Con Tryz.prog Zqa [.sc (.int .u64 1),.sc (.int .u64 (k:Int))] (.tup [.sc (.int .u64 0),.sc (.int .u64 (k:Int))]):=by
 refine Con.of' mix Tryz.func126 rfl Tryz.ntmps126 Zx0 Zx1 (by simp) rfl rfl ?_
 unfold Zqc
 repeat (first | refine xS ?_ | exact xT)
 refine Zay _ (.inl ⟨rfl,ZsN k hk⟩) ?_
 repeat (first | refine xS ?_ | exact xT)
def ZsO (x n k:Nat):List Nat:=List.replicate n x++List.replicate (k-n) 0
theorem ZkN {x n k:Nat} (h:n≤k):(ZsO x n k).length=k:=by simp [ZsO];omega
theorem ZDK {x k:Nat}:ZsO x k k=List.replicate k x:=by simp [ZsO]
theorem ZAG {x k:Nat}:ZsO x 0 k=List.replicate k 0:=by simp [ZsO]
theorem ZAH {x n k m:Nat} (h:m≤n):(ZsO x n k).take m=List.replicate m x:=by
 rw [ZsO,List.take_append_of_le_length (by simp;exact h),List.take_replicate,Nat.min_eq_left h]
theorem ZoM {x n m k:Nat} (h:n+m≤k):ZbG n ((List.replicate m x).map nA) ((ZsO x n k).map nA)=(ZsO x (n+m) k).map nA:=by
 unfold ZbG
 rw [←List.map_take,←List.map_drop,←List.map_append,←List.map_append]
 congr 1
 simp only [ZsO,List.length_map,List.length_replicate]
 rw [List.take_append_of_le_length (by simp),List.take_replicate,Nat.min_self,List.drop_append,List.drop_of_length_le (by simp),List.nil_append,List.length_replicate,List.drop_replicate,List.replicate_append_replicate]
 congr 2
 omega
set_option maxRecDepth 100000 in
theorem ZaT [Tabs Tryz.prog] (x k:Nat) (h0:0<k) (hk:k≤100000):Con Tryz.prog Zaw [.sl false none [.sc (.int .i64 (x:Int))],int (k:Int)] (.sl false none ((List.replicate k x).map nA)):=by
 refine Con.of' mix Tryz.func88 rfl Tryz.ntmps88 Zi5 Zi6 (by simp) rfl (by simp only [AV.free,Zab]) ?_
 unfold ZeT
 have d1:decide ((k:Int)<0)=false:=decide_eq_false (by omega)
 have d2:decide ((9223372036854775807:Int)<(k:Int))=false:=decide_eq_false (by omega)
 repeat (first | refine xR (ja3 @d1 @d2 @Zbi) ?_ | exact xU (ja3 @d1 @d2 @Zbi))
 refine Zay _ (.inl ⟨rfl,Zyg k (by omega)⟩) ?_
 have hz:(List.replicate k [AV.sc (.int .i64 0)]).flatten=(ZsO x 0 k).map nA:=by rw [ZsI,ZAG]
 have hl:=ZkN (x:=x) (n:=0) (k:=k) (by omega)
 have hs:(List.replicate 1 x).map nA++List.drop 1 ((ZsO x 0 k).map nA)=(ZsO x 1 k).map nA:=by have:=ZoM (x:=x) (n:=0) (m:=1) (k:=k) (by omega);rwa [ZbG,List.take_zero,List.nil_append,List.length_map,List.length_replicate,Nat.zero_add] at this
 have h1:([AV.sc (.int .i64 (x:Int))]).take k=(List.replicate 1 x).map nA:=by
  obtain ⟨k,rfl⟩:∃ j,k=j+1:=⟨k-1,by omega⟩
  simp [nA]
 repeat (first | refine xR (ja8 @d1 @d2 @Zbi @hz @hl @h1 @List.length_replicate.{0} @hs) ?_ | exact xU (ja8 @d1 @d2 @Zbi @hz @hl @h1 @List.length_replicate.{0} @hs))
 refine SWp.loop (α:=Nat) (fun n=>mk 48 1 [(7,.own 30 0 none 0 k),(8,int (n:Int))] [(30,0,.row false ((ZsO x n k).map nA))])
  (fun n=>1≤n∧n≤k) (fun n=>k-n) 1 ⟨by omega,by omega⟩ (Zau rfl ?_ ?_ ?_) ?_
 ·exact Nat.le_refl _
 iterate 2 (case _=>(first | exact vT | refine vS ?_))
 rintro n ⟨hn1,hn⟩ -
 have hl:=ZkN (x:=x) (n:=n) (k:=k) hn
 obtain ⟨m,hm⟩:∃ m,m=min n (k-n):=⟨_,rfl⟩
 have hmn:n+m≤k:=by omega
 have hs:=ZoM (x:=x) (n:=n) (m:=m) (k:=k) hmn
 rw [ZbG,List.length_map,List.length_replicate,List.append_assoc,Zf9,Zg0] at hs
 obtain ⟨R,hR⟩:∃ R,R=ZsO x n k:=⟨_,rfl⟩
 obtain ⟨Y,hY⟩:∃ Y,Y=List.replicate m x:=⟨_,rfl⟩
 have hYl:Y.length=m:=by rw [hY,List.length_replicate]
 have ht:((ZsO x n k).take n).take (k-n)=List.replicate m x:=by
  rw [List.take_take,Nat.min_comm,←hm,ZAH (by omega)]
 rw [←hR] at hs ht hl ⊢
 rw [←hY] at hs ht
 have hn3:min (R.take n).length (k-n)=m:=by rw [List.length_take,hl];omega
 repeat (first | refine xS ?_ | exact xT)
 refine SWp.cond rfl (fun h=>?_) (fun h=>?_)
 ·simp only [decide_eq_true_eq] at h
  repeat (first | refine xR (ja6 @hl @Zf9 @Zg0 @ht @hYl hm.symm) ?_ | exact xU (ja6 @hl @Zf9 @Zg0 @ht @hYl hm.symm))
  refine At.of (n+m) (by omega) (by omega) rfl rfl (Nat.le_refl _) ?_ ?_
  iterate 2 (case _=>(first | exact vU (ja3 @hn3 hm.symm @hs) | refine vR (ja3 @hn3 hm.symm @hs) ?_))
 ·simp only [decide_eq_false_iff_not] at h
  obtain rfl:n=k:=by omega
  repeat (first | refine xR @Zab ?_ | exact xU @Zab)
  rw [hR,List.take_of_length_le (by rw [List.length_map,ZkN (Nat.le_refl _)];exact Nat.le_refl _),ZDK]
theorem Zjh [Tabs Tryz.prog] (A B C D:List Nat) (hA:0<A.length) (hl:A.length≤1000∧B.length≤1000∧C.length≤1000∧D.length≤1000) :
  Con Tryz.prog Za6 [.sl false none [.sl false none (A.map nA),.sl false none (B.map nA),.sl false none (C.map nA),.sl false none (D.map nA)]] (.sl false none ((A++(B++(C++D))).map nA)):=by
 refine Con.of' mix Tryz.func87 rfl Tryz.ntmps87 ZeR ZeS (by simp) (by simp only [AV.free,AV.free.freeL,Zab,Bool.and_self]) (by simp only [AV.free,Zab]) ?_
 unfold ZcL
 obtain ⟨n,hn⟩:∃ n,n=A.length+B.length+C.length+D.length:=⟨_,rfl⟩
 have hc:(A.length:Int)+(B.length:Int)+(C.length:Int)+(D.length:Int)=(n:Int):=by omega
 have d1:decide ((A.length:Int)<0)=false:=decide_eq_false (by omega)
 have d2:decide ((A.length:Int)+(B.length:Int)<0)=false:=decide_eq_false (by omega)
 have d3:decide ((A.length:Int)+(B.length:Int)+(C.length:Int)<0)=false:=decide_eq_false (by omega)
 have d4:decide ((n:Int)<0)=false:=decide_eq_false (by omega)
 repeat (first | refine xR (ja5 @d1 @d2 @d3 @d4 @hc) ?_ | exact xU (ja5 @d1 @d2 @d3 @d4 @hc))
 refine SWp.unroll ?_
 repeat (first | refine xR (ja5 @d1 @d2 @d3 @d4 @hc) ?_ | exact xU (ja5 @d1 @d2 @d3 @d4 @hc))
 refine Zag [] 1000 (Zna n (by omega) (by omega)) (by simp) (by simp) ?_ ?_ ?_
 iterate 2 (case _=>(first | exact vT | refine vS ?_))
 repeat (first | refine xS ?_ | exact xT)
 refine SWp.unroll ?_
 repeat (first | refine xR (ja2 @List.length_append.{0} @Zab) ?_ | exact xU (ja2 @List.length_append.{0} @Zab))
 exact List.take_of_length_le (by simp;omega)
theorem ZDL {l:List Nat}:l.map nA=(l.map Int.ofNat).map int:=by rw [List.map_map];rfl
theorem toNat_ofNat {l:List Nat}:(l.map Int.ofNat).map Int.toNat=l:=by
 rw [List.map_map]
 conv=>rhs;rw [←List.map_id l]
 exact List.map_congr_left fun _ _=>rfl
theorem ZII {l:List Nat} (h15:∀ x∈l,x≤15) (hl:l.length≤320):chk (l.map Int.ofNat)=if 32768<ZaA l then 3 else 0:=by
 unfold chk
 rw [toNat_ofNat,List.length_map,if_neg (by omega),if_neg]
 rw [Bool.not_eq_false,List.all_eq_true]
 intro x hx
 obtain ⟨y,hy,rfl⟩:=List.mem_map.1 hx
 have:=h15 y hy
 exact decide_eq_true (by show 0≤(y:Int)∧(y:Int)≤15;omega)
theorem Zdf [Tabs Tryz.prog] (nl:Bool) (l:List Nat) (h15:∀ x∈l,x≤15) (hl:l.length≤320) (hK:ZaA l≤32768):Con Tryz.prog ZbY [.sl nl none (l.map nA)] (.tup [.fp (.agg (trR l)) 0,int 0]):=by
 have h:=ZpD nl (l.map Int.ofNat) (by rw [ZII h15 hl,if_neg (by omega)]) l toNat_ofNat.symm
 rw [←ZDL] at h
 exact h
theorem ZkO [Tabs Tryz.prog] (nl:Bool) (l:List Nat) (h15:∀ x∈l,x≤15) (hl:l.length≤1000):Con Tryz.prog ZfS [.sl nl none (l.map nA)] (boo (ZnQ l)):=by
 have h:=ZuF nl (l.map Int.ofNat) (by rw [List.length_map];exact hl)
 rw [←ZDL] at h
 have e:ZuE (l.map Int.ofNat)=ZnQ l:=by
  unfold ZuE ZnQ
  rw [toNat_ofNat]
  by_cases c:l.length≤320
  ·rw [ZII h15 c]
   by_cases c2:ZaA l=32768
   ·rw [if_neg (by omega),decide_eq_true c2,decide_eq_true (show l.length≤320∧ZaA l=32768 from ⟨c,c2⟩)];rfl
   ·rw [decide_eq_false c2,Bool.and_false,decide_eq_false (fun h=>c2 h.2)]
  ·rw [decide_eq_false (fun h:l.length≤320∧_=>c h.1),decide_eq_false,Bool.false_and]
   unfold chk
   rw [List.length_map,if_pos (by omega)]
   omega
 rw [e] at h
 exact h
theorem ZhC:(∀ x∈ZAx,x≤15)∧ZAx.length=288∧ZaA ZAx=32768:=by decide +kernel
theorem ZhD:(∀ x∈ZAy,x≤15)∧ZAy.length=32∧ZaA ZAy=32768:=by decide +kernel
set_option maxRecDepth 100000 in
theorem ZnF [Tabs Tryz.prog]:Con Tryz.prog Zfb [] (cds ZAx ZAy):=by
 refine Con.of' mix Tryz.func57 rfl Tryz.ntmps57 ZjU ZjV (by simp) rfl ZlJ ?_
 unfold Zff
 have p1:=ZaT 8 144 (by omega) (by omega)
 have p2:=ZaT 9 112 (by omega) (by omega)
 have p3:=ZaT 7 24 (by omega) (by omega)
 have p4:=ZaT 8 8 (by omega) (by omega)
 have p5:=ZaT 5 32 (by omega) (by omega)
 have pc:=Zjh (List.replicate 144 8) (List.replicate 112 9) (List.replicate 24 7) (List.replicate 8 8) (by simp) (by simp)
 have t1:=Zdf false ZAx ZhC.1 (by rw [ZhC.2.1];omega) (by rw [ZhC.2.2];omega)
 have t2:=Zdf false ZAy ZhD.1 (by rw [ZhD.2.1];omega) (by rw [ZhD.2.2];omega)
 have hL:List.replicate 144 8++(List.replicate 112 9++(List.replicate 24 7++List.replicate 8 8))=ZAx:=rfl
 have hD:List.replicate 32 5=ZAy:=rfl
 rw [hL] at pc
 rw [hD] at p5
 obtain ⟨A,hA⟩:∃ A,A=List.replicate 144 8:=⟨_,rfl⟩
 obtain ⟨B,hB⟩:∃ B,B=List.replicate 112 9:=⟨_,rfl⟩
 obtain ⟨C,hC⟩:∃ C,C=List.replicate 24 7:=⟨_,rfl⟩
 obtain ⟨D,hDd⟩:∃ D,D=List.replicate 8 8:=⟨_,rfl⟩
 rw [←hA] at p1 pc
 rw [←hB] at p2 pc
 rw [←hC] at p3 pc
 rw [←hDd] at p4 pc
 repeat (first | refine xR (ja2 fR iR) ?_ | exact xU (ja2 fR iR))
 refine Zfo 6 0 (nl:=false) (cells:=[.sc (.int .i64 8)]) [.sl false none [.sc (.int .i64 ((8:Nat):Int))],int ((144:Nat):Int)] _ (by (first | exact vT | refine vS ?_)) (by (first | exact vU @Zab | refine vR @Zab ?_)) ?_ (by (first | exact vU @Zab | refine vR @Zab ?_)) p1 ?_
 ·(first | exact vU (ja2 fR iR) | refine vR (ja2 fR iR) ?_)
 repeat (first | refine xR (ja2 fR iR) ?_ | exact xU (ja2 fR iR))
 refine Zfo 8 1 (nl:=false) (cells:=[.sc (.int .i64 9)]) [.sl false none [.sc (.int .i64 ((9:Nat):Int))],int ((112:Nat):Int)] _ (by (first | exact vT | refine vS ?_)) (by (first | exact vU @Zab | refine vR @Zab ?_)) ?_ (by (first | exact vU @Zab | refine vR @Zab ?_)) p2 ?_
 ·(first | exact vU (ja2 fR iR) | refine vR (ja2 fR iR) ?_)
 repeat (first | refine xR (ja2 fR iR) ?_ | exact xU (ja2 fR iR))
 refine Zfo 10 2 (nl:=false) (cells:=[.sc (.int .i64 7)]) [.sl false none [.sc (.int .i64 ((7:Nat):Int))],int ((24:Nat):Int)] _ (by (first | exact vT | refine vS ?_)) (by (first | exact vU @Zab | refine vR @Zab ?_)) ?_ (by (first | exact vU @Zab | refine vR @Zab ?_)) p3 ?_
 ·(first | exact vU (ja2 fR iR) | refine vR (ja2 fR iR) ?_)
 repeat (first | refine xR (ja2 fR iR) ?_ | exact xU (ja2 fR iR))
 refine Zfo 12 3 (nl:=false) (cells:=[.sc (.int .i64 8)]) [.sl false none [.sc (.int .i64 ((8:Nat):Int))],int ((8:Nat):Int)] _ (by (first | exact vT | refine vS ?_)) (by (first | exact vU @Zab | refine vR @Zab ?_)) ?_ (by (first | exact vU @Zab | refine vR @Zab ?_)) p4 ?_
 ·(first | exact vU (ja2 fR iR) | refine vR (ja2 fR iR) ?_)
 repeat (first | refine xR (ja2 fR iR) ?_ | exact xU (ja2 fR iR))
 refine Zay _ (.inl ⟨by simp only [AV.free,AV.free.freeL,Zab,Bool.and_self],pc⟩) ?_
 repeat (first | refine xR (ja2 fR iR) ?_ | exact xU (ja2 fR iR))
 refine Zay _ (.inl ⟨by simp only [AV.free,AV.free.freeL,Zab,Bool.and_self],t1⟩) ?_
 repeat (first | refine xR (ja2 fR iR) ?_ | exact xU (ja2 fR iR))
 refine Zfo 20 4 (nl:=false) (cells:=[.sc (.int .i64 5)]) [.sl false none [.sc (.int .i64 ((5:Nat):Int))],int ((32:Nat):Int)] _ (by (first | exact vT | refine vS ?_)) (by (first | exact vU @Zab | refine vR @Zab ?_)) ?_ (by (first | exact vU @Zab | refine vR @Zab ?_)) p5 ?_
 ·(first | exact vU (ja2 fR iR) | refine vR (ja2 fR iR) ?_)
 repeat (first | refine xR (ja2 fR iR) ?_ | exact xU (ja2 fR iR))
 refine Zay _ (.inl ⟨by simp only [AV.free,AV.free.freeL,Zab,Bool.and_self],t2⟩) ?_
 repeat (first | refine xR (ja2 @cds.eq_1 @ZbW) ?_ | exact xU (ja2 @cds.eq_1 @ZbW))
theorem ZDM {l:List Nat} {k:Nat} (h:k<l.length):(l.take (k+1)).sum=(l.take k).sum+l.getD k 0:=by
 rw [ZiP (d:=0) h,List.sum_append];simp
theorem ZvR:∀ {l:List Nat},(∀ x∈l,x≤15)→l.sum≤15*l.length
 | [],_=>by simp
 | x::l,h=>by
  have:=ZvR (l:=l) fun y hy=>h y (by simp [hy])
  have:=h x (by simp)
  simp only [List.sum_cons,List.length_cons];omega
theorem ZGe {n:Nat}:wt n≤16384*n:=by
 unfold wt
 split
 ·omega
 ·rename_i h
  have h2:2^1≤2^n:=Zcf (by omega)
  have:32768 / 2^n≤32768 / 2:=Nat.div_le_div_left (by simpa using h2) (by omega)
  omega
theorem ZAI {l:List Nat}:ZaA l≤16384*l.sum:=by
 induction l with
 | nil=>simp [ZaA]
 | cons x l ih=>simp only [ZaA,List.sum_cons];have:=ZGe (n:=x);omega
theorem Zqf {d:List Nat} (h:ZEv d=true):ZaA d≤32768:=by
 have:=ZAI (l:=d)
 simp only [ZEv,ZnQ,Bool.or_eq_true,decide_eq_true_eq] at h
 omega
set_option maxRecDepth 100000 in
theorem ZoN [Tabs Tryz.prog] (nl:Bool) (l:List Nat) (h15:∀ x∈l,x≤15) (hl:l.length≤1000):Con Tryz.prog ZfU [.sl nl none (l.map nA)] (boo (ZEv l)):=by
 refine Con.of' mix Tryz.func140 rfl Tryz.ntmps140 Zky Zkz (by simp) (by simp only [AV.free,AV.free.freeL,Zab,Bool.and_self]) rfl ?_
 unfold Zf2
 have hf:=ZkO nl l h15 hl
 repeat (first | refine zS ?_ | exact zT)
 refine SWp.loop (α:=Nat) (fun k=>mk 22 0 [(0,.sl nl none (l.map nA)),(3,int ((l.take k).sum:Nat)),(6,.sl nl none (l.map nA)),(7,int l.length),(8,int k)] [])
  (fun k=>k≤l.length) (fun k=>l.length-k) 0 (Nat.zero_le _) (Zau rfl ?_ ?_ ?_) ?_
 ·exact Nat.le_refl _
 iterate 2 (case _=>(first | exact yU (ja2 @List.take_zero.{0} @List.sum_nil.{0}) | refine yR (ja2 @List.take_zero.{0} @List.sum_nil.{0}) ?_))
 rintro k hk -
 have hsl:=ZvR (l:=l.take k) fun x hx=>h15 x (List.mem_of_mem_take hx)
 have htl:(l.take k).length≤1000:=by rw [List.length_take];omega
 repeat (first | refine zS ?_ | exact zT)
 refine SWp.cond rfl (fun h=>?_) (fun h=>?_)
 ·simp only [decide_eq_true_eq] at h
  have hkl:k<l.length:=by omega
  have hs:=ZDM hkl
  have hx15:l.getD k 0≤15:=by
   have:l.getD k 0=l[k]:=by simp [List.getD,List.getElem?_eq_getElem hkl]
   rw [this];exact h15 _ (List.getElem_mem hkl)
  obtain ⟨x,hx⟩:∃ x,x=l.getD k 0:=⟨_,rfl⟩
  obtain ⟨y,hy⟩:∃ y,y=(l.take k).sum:=⟨_,rfl⟩
  rw [←hx] at hs hx15
  rw [←hy] at hs hsl
  repeat (first | refine zR (ja3 iR hx.symm hy.symm) ?_ | exact zU (ja3 iR hx.symm hy.symm))
  refine At.of (k+1) (by omega) (by omega) rfl rfl (Nat.le_refl _) ?_ ?_
  iterate 2 (case _=>(first | exact yU @hs | refine yR @hs ?_))
 ·simp only [decide_eq_false_iff_not] at h
  obtain rfl:k=l.length:=by omega
  rw [List.take_length] at hsl htl
  obtain ⟨y,hy⟩:∃ y,y=l.sum:=⟨_,rfl⟩
  have hfe:ZEv l=(decide (y≤1) || ZnQ l):=by rw [hy];rfl
  rw [hfe]
  by_cases c:y≤1
  ·have d:decide ((y:Int)≤1)=true:=decide_eq_true (by omega)
   rw [decide_eq_true c,Bool.true_or]
   repeat (first | refine zR (ja3 @List.take_length.{0} hy.symm @d) ?_ | exact zU (ja3 @List.take_length.{0} hy.symm @d))
  ·have d:decide ((y:Int)≤1)=false:=decide_eq_false (by omega)
   rw [decide_eq_false c,Bool.false_or]
   repeat (first | refine zR (ja3 @List.take_length.{0} hy.symm @d) ?_ | exact zU (ja3 @List.take_length.{0} hy.symm @d))
   refine Zay _ (.inl ⟨by simp only [AV.free,AV.free.freeL,Zab,Bool.and_self],hf⟩) ?_
   repeat (first | refine zS ?_ | exact zT)
set_option maxRecDepth 100000 in
theorem Zrj [Tabs Tryz.prog] (n1 n2:Bool) (l d:List Nat) (hl15:∀ x∈l,x≤15) (hd15:∀ x∈d,x≤15) (hl:257≤l.length) (hl2:l.length≤320) (hd:d.length≤320) :
  Con Tryz.prog Zhg [.sl n1 none (l.map nA),.sl n2 none (d.map nA)] (if ZB8 l d=true then .tup [cds l d,int 0] else .tup [.sc (.pointer none),int 3]):=by
 have hfr:(if ZB8 l d=true then AV.tup [cds l d,int 0] else .tup [.sc (.pointer none),int 3]).free=true:=by
  by_cases c:ZB8 l d=true
  ·rw [if_pos c];simp only [AV.free,AV.free.freeL,ZlJ,int,Bool.and_self]
  ·rw [if_neg c];rfl
 refine Con.of' mix Tryz.func107 rfl Tryz.ntmps107 Zmj Zmk (by simp) (by simp only [AV.free,AV.free.freeL,Zab,Bool.and_self]) hfr ?_
 clear hfr
 unfold Zhk
 have hf:=ZkO n1 l hl15 (by omega)
 have hw:=ZoN n2 d hd15 (by omega)
 have hfl:AV.free.freeL [.sl n1 none (l.map nA)]=true:=by simp only [AV.free,AV.free.freeL,Zab,Bool.and_self]
 have hfd:AV.free.freeL [.sl n2 none (d.map nA)]=true:=by simp only [AV.free,AV.free.freeL,Zab,Bool.and_self]
 obtain ⟨x,hx⟩:∃ x,x=l.getD 256 0:=⟨_,rfl⟩
 have hco:ZB8 l d=(decide (x≠0)&&ZnQ l&&ZEv d):=by rw [hx];rfl
 rw [hco]
 by_cases c1:x=0
 ·have d1:decide ((x:Int)=0)=true:=decide_eq_true (by omega)
  rw [decide_eq_false (by simpa using c1),Bool.false_and,Bool.false_and,if_neg (by simp)]
  repeat (first | refine zR (ja3 iR hx.symm @d1) ?_ | exact zU (ja3 iR hx.symm @d1))
 have d1:decide ((x:Int)=0)=false:=decide_eq_false (by omega)
 rw [decide_eq_true (by simpa using c1),Bool.true_and]
 cases c2:ZnQ l with
 | false =>
  rw [c2] at hf
  rw [Bool.false_and,if_neg (by simp)]
  repeat (first | refine zR (ja3 iR hx.symm @d1) ?_ | exact zU (ja3 iR hx.symm @d1))
  refine Zay _ (.inl ⟨hfl,hf⟩) ?_
  repeat (first | refine zR (ja3 iR hx.symm @d1) ?_ | exact zU (ja3 iR hx.symm @d1))
 | true =>
  rw [c2] at hf
  rw [Bool.true_and]
  cases c3:ZEv d with
  | false =>
   rw [c3] at hw
   rw [if_neg (by simp)]
   repeat (first | refine zR (ja3 iR hx.symm @d1) ?_ | exact zU (ja3 iR hx.symm @d1))
   refine Zay _ (.inl ⟨hfl,hf⟩) ?_
   repeat (first | refine zR (ja3 iR hx.symm @d1) ?_ | exact zU (ja3 iR hx.symm @d1))
   refine Zay _ (.inl ⟨hfd,hw⟩) ?_
   repeat (first | refine zR (ja3 iR hx.symm @d1) ?_ | exact zU (ja3 iR hx.symm @d1))
  | true =>
   rw [c3] at hw
   rw [if_pos rfl]
   have t1:=Zdf n1 l hl15 hl2 (by simp only [ZnQ,decide_eq_true_eq] at c2;omega)
   have t2:=Zdf n2 d hd15 hd (Zqf c3)
   repeat (first | refine zR (ja3 iR hx.symm @d1) ?_ | exact zU (ja3 iR hx.symm @d1))
   refine Zay _ (.inl ⟨hfl,hf⟩) ?_
   repeat (first | refine zR (ja3 iR hx.symm @d1) ?_ | exact zU (ja3 iR hx.symm @d1))
   refine Zay _ (.inl ⟨hfd,hw⟩) ?_
   repeat (first | refine zR (ja3 iR hx.symm @d1) ?_ | exact zU (ja3 iR hx.symm @d1))
   refine Zay _ (.inl ⟨hfl,t1⟩) ?_
   repeat (first | refine zR (ja3 iR hx.symm @d1) ?_ | exact zU (ja3 iR hx.symm @d1))
   refine Zay _ (.inl ⟨hfd,t2⟩) ?_
   repeat (first | refine zR (ja3 iR @cds.eq_1 @ZbW) ?_ | exact zU (ja3 iR @cds.eq_1 @ZbW))
   all_goals trace_state
theorem ZDN:∀ k,k<19→Zhz.getD k 0<19:=by decide
theorem ZAJ {b:List UInt8} {i:Nat}:Zb6 b i 3≤7:=by have:=Zjx (b:=b) (i:=i) (n:=3);omega
theorem ZAK {b:List UInt8}:∀ (n k i j:Nat) (l th:List Nat),l.length=19→(∀ x∈l,x≤7)→i≤8*b.length→(ZvI n k l).run (Zah b) i = .ok th j→th.length=19∧∀ x∈th,x≤7:=by
 intro n
 induction n with
 | zero=>intro k i j l th h1 h2 hi h;simp only [ZvI,BT.run,BR.ok.injEq] at h;obtain ⟨rfl,rfl⟩:=h;exact ⟨h1,h2⟩
 | succ n ih =>
  intro k i j l th h1 h2 hi h
  simp only [ZvI,Zav] at h
  rw [ZeH hi] at h
  split at h
  ·simp only [BR.bnd] at h
   refine ih _ _ _ _ _ (by rw [List.length_set];exact h1) ?_ (by omega) h
   intro x hx
   rcases List.mem_or_eq_of_mem_set hx with hx | rfl
   ·exact h2 x hx
   ·exact ZAJ
  ·cases h
def Zee {α:Type} (good:α→AV):BR α→AV
 | .ok a _=>.tup [good a,int 0]
 | .no e=>.tup [.sc (.pointer none),int (e:Int)]
def ZbC {α:Type} (t:Bool) (most:Nat) (nl:Bool) (b:List UInt8) (out:List UInt8):BR α→List (Nat × Nat × AO)
 | .ok _ j=>unO 0 t most nl b j out
 | .no _=>[]
def Zg2 (l:List Nat):AV:=.fp (.agg (trR l)) 0
theorem ZsP {l:List Nat}:(Zg2 l).free=true:=by simp only [Zg2,AV.free,ZbW]
theorem ZnS {ρ:Nat→Nat→Nat × Nat} {l:List Nat}:ren ρ (Zg2 l)=Zg2 l:=ZhN ρ _ ZsP
set_option maxHeartbeats 1000000 in
set_option maxRecDepth 100000 in
theorem ZsQ [Tabs Tryz.prog] (ht:Tabs.tab Tryz.prog 1=some (Zhz.map nA)) (t:Bool) (most:Nat) (nl:Bool) (b:List UInt8) (hb:b.length≤1000000) (i:Nat) (hi:i≤8*b.length) (out:List UInt8) (n:Nat) (hn:n≤19) (r:BR (List Nat)) (hr:(Zyd n).run (Zah b) i=r) :
  HCon Tryz.prog Zdb [.op 1000 0 0,int (n:Int)] (unI t most nl b i out) (Zee Zg2 r) (ZbC t most nl b out r) 1000:=by
 refine HCon.of' mix Tryz.func105 rfl Tryz.ntmps105 ZgW ZgX (by simp) (by simp [AV.gl,AV.gl.glL,int]) ZeI ?_
 unfold Zdd
 have hG:∀ st,ev Tryz.prog st (.global 1) = .fp (.agg (Zhz.map nA)) 0:=fun st=>Zou ht
 obtain ⟨TT,hTT⟩:∃ TT,TT=Zhz:=⟨_,rfl⟩
 have hTl:TT.length=19:=by rw [hTT];rfl
 have hTx:∀ k,k<19→TT.getD k 0<19:=by rw [hTT];exact ZDN
 have hz:(List.replicate 19 [AV.sc (.int .i64 0)]).flatten=(List.replicate 19 0).map nA:=ZsI
 rw [Zyd,Zav] at hr
 rw [←hTT] at hG
 obtain ⟨Z,hZ⟩:∃ Z:List Nat,Z=List.replicate 19 0:=⟨_,rfl⟩
 have hZl:Z.length=19:=by rw [hZ];rfl
 have hZ7:∀ x∈Z,x≤7:=by rw [hZ];simp
 rw [←hZ] at hz hr
 have hok:=ZAK (b:=b) n 0 i
 obtain ⟨r0,hr0⟩:∃ r0,(ZvI n 0 Z).run (Zah b) i=r0:=⟨_,rfl⟩
 rw [hr0] at hr
 repeat (first | refine xR (ja2 @unI.eq_1 @hz) ?_ | exact xU (ja2 @unI.eq_1 @hz))
 refine SWp.loop (α:=Nat × List Nat × Nat) (fun x=>mk 39 (2+30*x.1) [(0,.op 1000 0 0),(6,.own 10 1 none 0 19),(11,int (n:Int)),(12,int (x.1:Int))] [(1000,0,.row false (unR t most 0 out.length)),(1001,0,.row false (rdR nl b x.2.2)),(1002,0,.row (nl0 out.length) (out.map u8)),(10,1,.row false (x.2.1.map nA))])
  (fun x=>x.1≤n∧(ZvI (n-x.1) x.1 x.2.1).run (Zah b) x.2.2=r0∧x.2.1.length=19∧(∀ y∈x.2.1,y≤7)∧x.2.2≤8*b.length) (fun x=>n-x.1) (0,Z,i) ⟨Nat.zero_le _,hr0,hZl,hZ7,hi⟩ (Zau rfl ?_ ?_ ?_) ?_
 ·exact Nat.le_refl _
 iterate 2 (case _=>(first | exact vT | refine vS ?_))
 rintro ⟨k,l,p⟩ ⟨hk,hx,hll,hl7,hp⟩ -
 simp only at hk hx hll hl7 hp
 repeat (first | refine xS ?_ | exact xT)
 refine SWp.cond rfl (fun h=>?_) (fun h=>?_)
 ·simp only [decide_eq_true_eq] at h
  obtain ⟨f,hf⟩:∃ f,n-k=f+1:=⟨n-k-1,by omega⟩
  rw [hf,ZvI,Zav,ZeH hp] at hx
  by_cases c1:p+3≤8*b.length
  ·rw [if_pos c1] at hx
   simp only [BR.bnd] at hx
   have hT:=Zdw nl b hb p hp 3 (by omega) c1
   have hv7:=ZAJ (b:=b) (i:=p)
   obtain ⟨v,hv⟩:∃ v,v=Zb6 b p 3:=⟨_,rfl⟩
   rw [←hv] at hT hx hv7
   have hw:=hTx k (by omega)
   rw [←hTT] at hx
   obtain ⟨w,hwd⟩:∃ w,w=TT.getD k 0:=⟨_,rfl⟩
   rw [←hwd] at hx hw
   have hsp:=Zcq (l:=l) (k:=w) (x:=v) (by omega)
   repeat (first | refine xR @unR.eq_1 ?_ | exact xU @unR.eq_1)
   refine Zag [(1001,0)] 2000 hT (by simp) (by simp) ?_ ?_ ?_
   iterate 2 (case _=>(first | exact vU @rdR.eq_1 | refine vR @rdR.eq_1 ?_))
   repeat (first | refine xR (ja7 @unR.eq_1 @rdR.eq_1 @hG iR hwd.symm @hTl @hll) ?_ | exact xU (ja7 @unR.eq_1 @rdR.eq_1 @hG iR hwd.symm @hTl @hll))
   refine At.of (k+1,l.set w v,p+3) ⟨by simp only;omega,by simp only;rw [show n-(k+1)=f by omega];exact hx,by simp only [List.length_set];exact hll,?_,c1⟩ (by simp only;omega) rfl rfl ?_ ?_ ?_
   ·intro y hy
    rcases List.mem_or_eq_of_mem_set hy with hy | rfl
    ·exact hl7 y hy
    ·exact hv7
   ·simp only;omega
   iterate 2 (case _=>(first | exact vU (ja3 @unR.eq_1 @rdR.eq_1 @hsp) | refine vR (ja3 @unR.eq_1 @rdR.eq_1 @hsp) ?_))
  ·rw [if_neg c1] at hx
   simp only [BR.bnd] at hx
   subst hx
   simp only [BR.bnd] at hr
   subst hr
   have hT:=ZdG nl b hb p hp 3 (decide_eq_false (by omega))
   repeat (first | refine xR @unR.eq_1 ?_ | exact xU @unR.eq_1)
   refine Zag [(1001,0)] 2000 hT (by simp) (by simp) ?_ ?_ ?_
   iterate 2 (case _=>(first | exact vU @rdR.eq_1 | refine vR @rdR.eq_1 ?_))
   repeat (first | refine xR (ja6 @unR.eq_1 @rdR.eq_1 @Zee.eq_1 @Zee.eq_2 @ZbC.eq_1 @ZbC.eq_2) ?_ | exact xU (ja6 @unR.eq_1 @rdR.eq_1 @Zee.eq_1 @Zee.eq_2 @ZbC.eq_1 @ZbC.eq_2))
   omega
 ·simp only [decide_eq_false_iff_not] at h
  obtain rfl:k=n:=by omega
  rw [Nat.sub_self,ZvI] at hx
  simp only [BT.run] at hx
  subst hx
  simp only [BR.bnd] at hr
  have hf:=ZkO false l (fun x hx=>by have:=hl7 x hx;omega) (by omega)
  have hfr:AV.free.freeL [.sl false none (l.map nA)]=true:=by simp only [AV.free,AV.free.freeL,Zab,Bool.and_self]
  have htk:l.take 19=l:=List.take_of_length_le (by omega)
  by_cases c2:ZnQ l=true
  ·rw [if_pos c2] at hr
   simp only [BT.run] at hr
   subst hr
   rw [c2] at hf
   have t1:=Zdf false l (fun x hx=>by have:=hl7 x hx;omega) (by omega) (by simp only [ZnQ,decide_eq_true_eq] at c2;omega)
   repeat (first | refine xS ?_ | exact xT)
   refine Zay (boo true) (.inr ⟨rfl,?_,?_⟩) ?_
   ·(first | exact vU (ja3 iR @hll @htk) | refine vR (ja3 iR @hll @htk) ?_)
   ·(first | exact vU (ja3 iR @hll @htk) | refine vR (ja3 iR @hll @htk) ?_)
    exact hf
   repeat (first | refine xS ?_ | exact xT)
   refine Zfo 10 1 (nl:=false) (cells:=l.map nA) [.sl false none (l.map nA)] _ (by (first | exact vT | refine vS ?_)) (by (first | exact vU @Zab | refine vR @Zab ?_)) ?_ hfr t1 ?_
   ·(first | exact vU (ja4 fR iR @hll @htk) | refine vR (ja4 fR iR @hll @htk) ?_)
   repeat (first | refine xR (ja8 @Zee.eq_1 @Zee.eq_2 @ZbC.eq_1 @ZbC.eq_2 @unO.eq_1 @Zg2.eq_1 @unR.eq_1 @rdR.eq_1) ?_ | exact xU (ja8 @Zee.eq_1 @Zee.eq_2 @ZbC.eq_1 @ZbC.eq_2 @unO.eq_1 @Zg2.eq_1 @unR.eq_1 @rdR.eq_1))
   omega
  ·rw [if_neg c2] at hr
   simp only [BT.run] at hr
   subst hr
   rw [Bool.not_eq_true] at c2
   rw [c2] at hf
   repeat (first | refine xS ?_ | exact xT)
   refine Zay (boo false) (.inr ⟨rfl,?_,?_⟩) ?_
   ·(first | exact vU (ja3 iR @hll @htk) | refine vR (ja3 iR @hll @htk) ?_)
   ·(first | exact vU (ja3 iR @hll @htk) | refine vR (ja3 iR @hll @htk) ?_)
    exact hf
   repeat (first | refine xR (ja4 @Zee.eq_1 @Zee.eq_2 @ZbC.eq_1 @ZbC.eq_2) ?_ | exact xU (ja4 @Zee.eq_1 @Zee.eq_2 @ZbC.eq_1 @ZbC.eq_2))
   omega
def Zek:BR (List Nat)→AV
 | .ok l _=>.tup [.sl false none (l.map nA),int 0]
 | .no e=>.tup [.sc (.slice none 0 0),int (e:Int)]
theorem ZGf {a c:Nat} (h:0<c):nl0 (a+c)=false:=Zcg (by omega)
set_option maxHeartbeats 2000000 in
set_option maxRecDepth 100000 in
theorem Zrk [Tabs Tryz.prog] (t:Bool) (most:Nat) (nl:Bool) (b:List UInt8) (hb:b.length≤1000000) (i:Nat) (hi:i≤8*b.length) (out:List UInt8) (th:List Nat) (hth:th.length=19) (hK:ZaA th≤32768) (n:Nat) (hn0:0<n) (hn:n<400) (r:BR (List Nat)) (hr:(lsT th n 400 []).run (Zah b) i=r) :
  HCon Tryz.prog ZcX [.op 1000 0 0,Zg2 th,int (n:Int)] (unI t most nl b i out) (Zek r) (ZbC t most nl b out r) 500000:=by
 refine HCon.of' mix Tryz.func106 rfl Tryz.ntmps106 Zgh Zgi (by simp) (by simp only [AV.gl.glL,AV.gl,int,and_true];exact ⟨by omega,Zcr 1 _ ZsP⟩) ZeI ?_
 unfold Zc1
 repeat (first | refine zR @unI.eq_1 ?_ | exact zU @unI.eq_1)
 refine SWp.adopt 8 none (by (first | exact yT | refine yS ?_)) ?_
 refine SWp.loop (α:=Nat × List Nat × Nat × Nat × Nat) (fun x=>mk 70 x.2.2.2.2 [(0,.op 1000 0 0),(1,Zg2 th),(2,int (n:Int)),(8,.own 8 x.2.2.2.1 none 0 x.2.1.length)] [(1000,0,.row false (unR t most 0 out.length)),(1001,0,.row false (rdR nl b x.2.2.1)),(1002,0,.row (nl0 out.length) (out.map u8)),(8,x.2.2.2.1,.row (nl0 x.2.1.length) (x.2.1.map nA))])
  (fun x=>(lsT th n x.1 x.2.1).run (Zah b) x.2.2.1=r∧x.2.2.1≤8*b.length∧x.2.1.length≤n∧n-x.2.1.length<x.1∧(∀ y∈x.2.1,y≤18)∧x.2.2.2.2+1000*x.1≤400002) (fun x=>x.1) (400,[],i,1,2) ⟨hr,hi,Nat.zero_le _,by simp only [List.length_nil];omega,by simp,by simp only;omega⟩ (Zau rfl ?_ ?_ ?_) ?_
 ·exact Nat.le_refl _
 iterate 2 (case _=>(first | exact yU @Zbw | refine yR @Zbw ?_))
 rintro ⟨f,l,p,g,c⟩ ⟨hx,hp,hln,hf,hl18,hc⟩ -
 simp only at hx hp hln hf hl18 hc
 obtain ⟨f,rfl⟩:∃ f',f=f'+1:=⟨f-1,by omega⟩
 rw [lsT] at hx
 repeat (first | refine zS ?_ | exact zT)
 refine SWp.cond rfl (fun h=>?_) (fun h=>?_)
 ·simp only [decide_eq_true_eq] at h
  have hlt:l.length<n:=by omega
  rw [if_neg (by omega),Zav,ZoJ] at hx
  have hfc:=ZlI (l:=th) (B:=(Zah b).drop p) 15 0 0 (Nat.zero_le _)
  have hsy:=ZoL (l:=th) (B:=(Zah b).drop p) 15 0 0
  have hN:=ZkM th (by omega) hK nl b hb p hp _ rfl
  rw [List.length_drop,Zad] at hfc
  obtain ⟨⟨sy,m,e⟩,hr2⟩:∃ r,r=nxt th ((Zah b).drop p) 15 0 0:=⟨_,rfl⟩
  rw [←hr2] at hfc hsy hN hx
  simp only at hfc hsy hN
  clear hr2 hr
  by_cases c2:e=0
  ·subst c2
   have hsy:=hsy rfl
   obtain ⟨q,hq⟩:∃ q,q=p+m:=⟨_,rfl⟩
   have hq8:q≤8*b.length:=by omega
   simp only [ZAv,if_true,BR.bnd] at hx
   rw [←hq] at hN hx
   by_cases c16:sy=16∧l=[]
   ·rw [if_pos c16] at hx
    simp only [BT.run] at hx
    subst hx
    obtain ⟨rfl,rfl⟩:=c16
    repeat (first | refine zR (ja2 @unR.eq_1 @Zg2.eq_1) ?_ | exact zU (ja2 @unR.eq_1 @Zg2.eq_1))
    refine Zag [(1001,0)] 2000 hN (by simp) (by simp) ?_ ?_ ?_
    iterate 2 (case _=>(first | exact yU (ja2 @rdR.eq_1 @Zac) | refine yR (ja2 @rdR.eq_1 @Zac) ?_))
    repeat (first | refine zR (ja4 @Zek.eq_1 @Zek.eq_2 @ZbC.eq_1 @ZbC.eq_2) ?_ | exact zU (ja4 @Zek.eq_1 @Zek.eq_2 @ZbC.eq_1 @ZbC.eq_2))
    omega
   ·rw [if_neg c16,Zav] at hx
    obtain ⟨V,hV⟩:∃ V,V=lsV sy l:=⟨_,rfl⟩
    obtain ⟨N,hN1⟩:∃ N,N=lsN sy:=⟨_,rfl⟩
    obtain ⟨Bt,hBt⟩:∃ B,B=lsB sy:=⟨_,rfl⟩
    have hV18:V≤18:=by
     rw [hV];unfold lsV
     split
     ·rename_i e16
      have hne:l≠[]:=fun h=>c16 ⟨e16,h⟩
      have h0:l.length-1<l.length:=by have:=List.length_pos_iff.2 hne;omega
      have:l.getD (l.length-1) 0=l[l.length-1]:=by simp [List.getD,List.getElem?_eq_getElem h0]
      rw [this];exact hl18 _ (List.getElem_mem h0)
     ·split
      ·omega
      ·omega
    have hN3:1≤N∧N≤11:=by rw [hN1];unfold lsN;split <;> (try split) <;> omega
    have hB7:Bt≤7:=by rw [hBt];unfold lsB;split <;> (try split) <;> (try split) <;> omega
    rw [←hV,←hN1,←hBt] at hx
    have hA:=ZmB t most nl b hb q hq8 out N Bt (by omega) (by omega)
    have hAi:=fun a j (h:(Zhy N Bt).run (Zah b) q = .ok a j)=>(Zgc h).2 (by rw [Zad];exact hq8)
    have hA2:=fun a j (h:(Zhy N Bt).run (Zah b) q = .ok a j)=>And.intro (Zrg Zjw h) (ZDA h)
    have hp7:2^Bt≤128:=Zcf (n:=Bt) (m:=7) hB7
    obtain ⟨r1,hr1⟩:∃ r,r=(Zhy N Bt).run (Zah b) q:=⟨_,rfl⟩
    rw [←hr1] at hA hAi hA2 hx
    cases r1 with
    | no e1 =>
     simp only [BR.bnd] at hx
     subst hx
     have de:decide ((e1:Int)=0)=false:=decide_eq_false (by have:=hA.1;omega)
     by_cases e16:sy=16
     ·subst e16
      have hl0:0<l.length:=List.length_pos_iff.2 fun h=>c16 ⟨rfl,h⟩
      have dl:decide ((l.length:Int)=0)=false:=decide_eq_false (by omega)
      obtain ⟨z,hz⟩:∃ z,z=l.length-1:=⟨_,rfl⟩
      have ez:(l.length:Int)-1=(z:Int):=by omega
      have hVz:l.getD z 0=V:=by rw [hV,hz];rfl
      obtain rfl:N=3:=hN1
      obtain rfl:Bt=2:=hBt
      repeat (first | refine zR (ja2 @unR.eq_1 @Zg2.eq_1) ?_ | exact zU (ja2 @unR.eq_1 @Zg2.eq_1))
      refine Zag [(1001,0)] 2000 hN (by simp) (by simp) ?_ ?_ ?_
      iterate 2 (case _=>(first | exact yU (ja2 @rdR.eq_1 @Zac) | refine yR (ja2 @rdR.eq_1 @Zac) ?_))
      repeat (first | refine zR (ja6 @unR.eq_1 @rdR.eq_1 @dl @ez iR @hVz) ?_ | exact zU (ja6 @unR.eq_1 @rdR.eq_1 @dl @ez iR @hVz))
      refine Zag [(1000,0),(1001,0),(1002,0)] 3000 hA.2 (by simp) (by simp) ?_ ?_ ?_
      iterate 2 (case _=>(first | exact yU (ja4 @unI.eq_1 @unR.eq_1 @rdR.eq_1 @Zaa) | refine yR (ja4 @unI.eq_1 @unR.eq_1 @rdR.eq_1 @Zaa) ?_))
      repeat (first | refine zR (ja8 @unO.eq_1 @unR.eq_1 @rdR.eq_1 @Zaa @noI.eq_1 @Zek.eq_1 @Zek.eq_2 (ja3 @ZbC.eq_1 @ZbC.eq_2 @de)) ?_ | exact zU (ja8 @unO.eq_1 @unR.eq_1 @rdR.eq_1 @Zaa @noI.eq_1 @Zek.eq_1 @Zek.eq_2 (ja3 @ZbC.eq_1 @ZbC.eq_2 @de)))
      omega
     have d16:decide ((sy:Int)=16)=false:=decide_eq_false (by omega)
     by_cases e17:sy=17
     ·subst e17
      obtain rfl:V=0:=hV
      obtain rfl:N=3:=hN1
      obtain rfl:Bt=3:=hBt
      repeat (first | refine zR (ja2 @unR.eq_1 @Zg2.eq_1) ?_ | exact zU (ja2 @unR.eq_1 @Zg2.eq_1))
      refine Zag [(1001,0)] 2000 hN (by simp) (by simp) ?_ ?_ ?_
      iterate 2 (case _=>(first | exact yU (ja2 @rdR.eq_1 @Zac) | refine yR (ja2 @rdR.eq_1 @Zac) ?_))
      repeat (first | refine zR (ja2 @unR.eq_1 @rdR.eq_1) ?_ | exact zU (ja2 @unR.eq_1 @rdR.eq_1))
      refine Zag [(1000,0),(1001,0),(1002,0)] 3000 hA.2 (by simp) (by simp) ?_ ?_ ?_
      iterate 2 (case _=>(first | exact yU (ja4 @unI.eq_1 @unR.eq_1 @rdR.eq_1 @Zaa) | refine yR (ja4 @unI.eq_1 @unR.eq_1 @rdR.eq_1 @Zaa) ?_))
      repeat (first | refine zR (ja8 @unO.eq_1 @unR.eq_1 @rdR.eq_1 @Zaa @noI.eq_1 @Zek.eq_1 @Zek.eq_2 (ja3 @ZbC.eq_1 @ZbC.eq_2 @de)) ?_ | exact zU (ja8 @unO.eq_1 @unR.eq_1 @rdR.eq_1 @Zaa @noI.eq_1 @Zek.eq_1 @Zek.eq_2 (ja3 @ZbC.eq_1 @ZbC.eq_2 @de)))
      omega
     have d17:decide ((sy:Int)=17)=false:=decide_eq_false (by omega)
     by_cases e18:sy=18
     ·subst e18
      obtain rfl:V=0:=hV
      obtain rfl:N=11:=hN1
      obtain rfl:Bt=7:=hBt
      repeat (first | refine zR (ja2 @unR.eq_1 @Zg2.eq_1) ?_ | exact zU (ja2 @unR.eq_1 @Zg2.eq_1))
      refine Zag [(1001,0)] 2000 hN (by simp) (by simp) ?_ ?_ ?_
      iterate 2 (case _=>(first | exact yU (ja2 @rdR.eq_1 @Zac) | refine yR (ja2 @rdR.eq_1 @Zac) ?_))
      repeat (first | refine zR (ja2 @unR.eq_1 @rdR.eq_1) ?_ | exact zU (ja2 @unR.eq_1 @rdR.eq_1))
      refine Zag [(1000,0),(1001,0),(1002,0)] 3000 hA.2 (by simp) (by simp) ?_ ?_ ?_
      iterate 2 (case _=>(first | exact yU (ja4 @unI.eq_1 @unR.eq_1 @rdR.eq_1 @Zaa) | refine yR (ja4 @unI.eq_1 @unR.eq_1 @rdR.eq_1 @Zaa) ?_))
      repeat (first | refine zR (ja8 @unO.eq_1 @unR.eq_1 @rdR.eq_1 @Zaa @noI.eq_1 @Zek.eq_1 @Zek.eq_2 (ja3 @ZbC.eq_1 @ZbC.eq_2 @de)) ?_ | exact zU (ja8 @unO.eq_1 @unR.eq_1 @rdR.eq_1 @Zaa @noI.eq_1 @Zek.eq_1 @Zek.eq_2 (ja3 @ZbC.eq_1 @ZbC.eq_2 @de)))
      omega
     have d18:decide ((sy:Int)=18)=false:=decide_eq_false (by omega)
     obtain rfl:V=sy:=by rw [hV,lsV,if_neg e16,if_neg (by omega)]
     obtain rfl:N=1:=by rw [hN1,lsN,if_neg (by omega),if_neg e18]
     obtain rfl:Bt=0:=by rw [hBt,lsB,if_neg e16,if_neg e17,if_neg e18]
     repeat (first | refine zR (ja2 @unR.eq_1 @Zg2.eq_1) ?_ | exact zU (ja2 @unR.eq_1 @Zg2.eq_1))
     refine Zag [(1001,0)] 2000 hN (by simp) (by simp) ?_ ?_ ?_
     iterate 2 (case _=>(first | exact yU (ja2 @rdR.eq_1 @Zac) | refine yR (ja2 @rdR.eq_1 @Zac) ?_))
     repeat (first | refine zR (ja5 @unR.eq_1 @rdR.eq_1 @d16 @d17 @d18) ?_ | exact zU (ja5 @unR.eq_1 @rdR.eq_1 @d16 @d17 @d18))
     refine Zag [(1000,0),(1001,0),(1002,0)] 3000 hA.2 (by simp) (by simp) ?_ ?_ ?_
     iterate 2 (case _=>(first | exact yU (ja4 @unI.eq_1 @unR.eq_1 @rdR.eq_1 @Zaa) | refine yR (ja4 @unI.eq_1 @unR.eq_1 @rdR.eq_1 @Zaa) ?_))
     repeat (first | refine zR (ja8 @unO.eq_1 @unR.eq_1 @rdR.eq_1 @Zaa @noI.eq_1 @Zek.eq_1 @Zek.eq_2 (ja3 @ZbC.eq_1 @ZbC.eq_2 @de)) ?_ | exact zU (ja8 @unO.eq_1 @unR.eq_1 @rdR.eq_1 @Zaa @noI.eq_1 @Zek.eq_1 @Zek.eq_2 (ja3 @ZbC.eq_1 @ZbC.eq_2 @de)))
     omega
    | ok a j =>
     have hj:=hAi a j rfl
     have ha:=hA2 a j rfl
     rw [Zad] at hj
     simp only [BR.bnd] at hx
     by_cases c3:n<l.length+a
     ·rw [if_pos c3] at hx
      simp only [BT.run] at hx
      subst hx
      have d3:decide ((n:Int)-(l.length:Int)<(a:Int))=true:=decide_eq_true (by omega)
      by_cases e16:sy=16
      ·subst e16
       have hl0:0<l.length:=List.length_pos_iff.2 fun h=>c16 ⟨rfl,h⟩
       have dl:decide ((l.length:Int)=0)=false:=decide_eq_false (by omega)
       obtain ⟨z,hz⟩:∃ z,z=l.length-1:=⟨_,rfl⟩
       have ez:(l.length:Int)-1=(z:Int):=by omega
       have hVz:l.getD z 0=V:=by rw [hV,hz];rfl
       obtain rfl:N=3:=hN1
       obtain rfl:Bt=2:=hBt
       repeat (first | refine zR (ja2 @unR.eq_1 @Zg2.eq_1) ?_ | exact zU (ja2 @unR.eq_1 @Zg2.eq_1))
       refine Zag [(1001,0)] 2000 hN (by simp) (by simp) ?_ ?_ ?_
       iterate 2 (case _=>(first | exact yU (ja2 @rdR.eq_1 @Zac) | refine yR (ja2 @rdR.eq_1 @Zac) ?_))
       repeat (first | refine zR (ja6 @unR.eq_1 @rdR.eq_1 @dl @ez iR @hVz) ?_ | exact zU (ja6 @unR.eq_1 @rdR.eq_1 @dl @ez iR @hVz))
       refine Zag [(1000,0),(1001,0),(1002,0)] 3000 hA (by simp) (by simp) ?_ ?_ ?_
       iterate 2 (case _=>(first | exact yU (ja4 @unI.eq_1 @unR.eq_1 @rdR.eq_1 @Zaa) | refine yR (ja4 @unI.eq_1 @unR.eq_1 @rdR.eq_1 @Zaa) ?_))
       repeat (first | refine zR (ja8 @unO.eq_1 @unR.eq_1 @rdR.eq_1 @Zaa @okI.eq_1 @Zek.eq_1 @Zek.eq_2 (ja3 @ZbC.eq_1 @ZbC.eq_2 @d3)) ?_ | exact zU (ja8 @unO.eq_1 @unR.eq_1 @rdR.eq_1 @Zaa @okI.eq_1 @Zek.eq_1 @Zek.eq_2 (ja3 @ZbC.eq_1 @ZbC.eq_2 @d3)))
       omega
      have d16:decide ((sy:Int)=16)=false:=decide_eq_false (by omega)
      by_cases e17:sy=17
      ·subst e17
       obtain rfl:V=0:=hV
       obtain rfl:N=3:=hN1
       obtain rfl:Bt=3:=hBt
       repeat (first | refine zR (ja2 @unR.eq_1 @Zg2.eq_1) ?_ | exact zU (ja2 @unR.eq_1 @Zg2.eq_1))
       refine Zag [(1001,0)] 2000 hN (by simp) (by simp) ?_ ?_ ?_
       iterate 2 (case _=>(first | exact yU (ja2 @rdR.eq_1 @Zac) | refine yR (ja2 @rdR.eq_1 @Zac) ?_))
       repeat (first | refine zR (ja2 @unR.eq_1 @rdR.eq_1) ?_ | exact zU (ja2 @unR.eq_1 @rdR.eq_1))
       refine Zag [(1000,0),(1001,0),(1002,0)] 3000 hA (by simp) (by simp) ?_ ?_ ?_
       iterate 2 (case _=>(first | exact yU (ja4 @unI.eq_1 @unR.eq_1 @rdR.eq_1 @Zaa) | refine yR (ja4 @unI.eq_1 @unR.eq_1 @rdR.eq_1 @Zaa) ?_))
       repeat (first | refine zR (ja8 @unO.eq_1 @unR.eq_1 @rdR.eq_1 @Zaa @okI.eq_1 @Zek.eq_1 @Zek.eq_2 (ja3 @ZbC.eq_1 @ZbC.eq_2 @d3)) ?_ | exact zU (ja8 @unO.eq_1 @unR.eq_1 @rdR.eq_1 @Zaa @okI.eq_1 @Zek.eq_1 @Zek.eq_2 (ja3 @ZbC.eq_1 @ZbC.eq_2 @d3)))
       omega
      have d17:decide ((sy:Int)=17)=false:=decide_eq_false (by omega)
      by_cases e18:sy=18
      ·subst e18
       obtain rfl:V=0:=hV
       obtain rfl:N=11:=hN1
       obtain rfl:Bt=7:=hBt
       repeat (first | refine zR (ja2 @unR.eq_1 @Zg2.eq_1) ?_ | exact zU (ja2 @unR.eq_1 @Zg2.eq_1))
       refine Zag [(1001,0)] 2000 hN (by simp) (by simp) ?_ ?_ ?_
       iterate 2 (case _=>(first | exact yU (ja2 @rdR.eq_1 @Zac) | refine yR (ja2 @rdR.eq_1 @Zac) ?_))
       repeat (first | refine zR (ja2 @unR.eq_1 @rdR.eq_1) ?_ | exact zU (ja2 @unR.eq_1 @rdR.eq_1))
       refine Zag [(1000,0),(1001,0),(1002,0)] 3000 hA (by simp) (by simp) ?_ ?_ ?_
       iterate 2 (case _=>(first | exact yU (ja4 @unI.eq_1 @unR.eq_1 @rdR.eq_1 @Zaa) | refine yR (ja4 @unI.eq_1 @unR.eq_1 @rdR.eq_1 @Zaa) ?_))
       repeat (first | refine zR (ja8 @unO.eq_1 @unR.eq_1 @rdR.eq_1 @Zaa @okI.eq_1 @Zek.eq_1 @Zek.eq_2 (ja3 @ZbC.eq_1 @ZbC.eq_2 @d3)) ?_ | exact zU (ja8 @unO.eq_1 @unR.eq_1 @rdR.eq_1 @Zaa @okI.eq_1 @Zek.eq_1 @Zek.eq_2 (ja3 @ZbC.eq_1 @ZbC.eq_2 @d3)))
       omega
      have d18:decide ((sy:Int)=18)=false:=decide_eq_false (by omega)
      obtain rfl:V=sy:=by rw [hV,lsV,if_neg e16,if_neg (by omega)]
      obtain rfl:N=1:=by rw [hN1,lsN,if_neg (by omega),if_neg e18]
      obtain rfl:Bt=0:=by rw [hBt,lsB,if_neg e16,if_neg e17,if_neg e18]
      exfalso
      omega
     ·rw [if_neg c3] at hx
      have d3:decide ((n:Int)-(l.length:Int)<(a:Int))=false:=decide_eq_false (by omega)
      have hRp:=ZaT V a (by omega) (by omega)
      have hX:(l++List.replicate a V).length=l.length+a:=by simp
      have hem:((List.replicate a V).map nA).isEmpty=false:=by
       obtain ⟨a,rfl⟩:∃ k,a=k+1:=⟨a-1,by omega⟩
       rfl
      have hXl:(List.replicate a V).length=a:=List.length_replicate
      have h18:∀ y∈l++List.replicate a V,y≤18:=by
       intro y hy
       rcases List.mem_append.1 hy with hy | hy
       ·exact hl18 y hy
       ·rw [(List.mem_replicate.1 hy).2];exact hV18
      have hn0':nl0 (l.length+a)=false:=ZGf (by omega)
      obtain ⟨X,hXd⟩:∃ X,X=List.replicate a V:=⟨_,rfl⟩
      rw [←hXd] at hRp hx hX hem hXl h18
      by_cases e16:sy=16
      ·subst e16
       have hl0:0<l.length:=List.length_pos_iff.2 fun h=>c16 ⟨rfl,h⟩
       have dl:decide ((l.length:Int)=0)=false:=decide_eq_false (by omega)
       obtain ⟨z,hz⟩:∃ z,z=l.length-1:=⟨_,rfl⟩
       have ez:(l.length:Int)-1=(z:Int):=by omega
       have hVz:l.getD z 0=V:=by rw [hV,hz];rfl
       obtain rfl:N=3:=hN1
       obtain rfl:Bt=2:=hBt
       repeat (first | refine zR (ja2 @unR.eq_1 @Zg2.eq_1) ?_ | exact zU (ja2 @unR.eq_1 @Zg2.eq_1))
       refine Zag [(1001,0)] 2000 hN (by simp) (by simp) ?_ ?_ ?_
       iterate 2 (case _=>(first | exact yU (ja2 @rdR.eq_1 @Zac) | refine yR (ja2 @rdR.eq_1 @Zac) ?_))
       repeat (first | refine zR (ja6 @unR.eq_1 @rdR.eq_1 @dl @ez iR @hVz) ?_ | exact zU (ja6 @unR.eq_1 @rdR.eq_1 @dl @ez iR @hVz))
       refine Zag [(1000,0),(1001,0),(1002,0)] 3000 hA (by simp) (by simp) ?_ ?_ ?_
       iterate 2 (case _=>(first | exact yU (ja4 @unI.eq_1 @unR.eq_1 @rdR.eq_1 @Zaa) | refine yR (ja4 @unI.eq_1 @unR.eq_1 @rdR.eq_1 @Zaa) ?_))
       repeat (first | refine zR (ja6 @unO.eq_1 @unR.eq_1 @rdR.eq_1 @Zaa @okI.eq_1 @d3) ?_ | exact zU (ja6 @unO.eq_1 @unR.eq_1 @rdR.eq_1 @Zaa @okI.eq_1 @d3))
       refine Zfo 65 (c+100+40) (nl:=false) (cells:=[nA V]) [.sl false none [.sc (.int .i64 (V:Int))],int (a:Int)] _ (by (first | exact yU @nA.eq_1 | refine yR @nA.eq_1 ?_)) (by (first | exact yU @nA.eq_1 | refine yR @nA.eq_1 ?_)) ?_ (by (first | exact yT | refine yS ?_)) hRp ?_
       ·(first | exact yU (ja2 fR @nA.eq_1) | refine yR (ja2 fR @nA.eq_1) ?_)
       repeat (first | refine zR (ja4 @hX @hXl @hem @Bool.and_false) ?_ | exact zU (ja4 @hX @hXl @hem @Bool.and_false))
       refine At.of (f,l++X,j,c+100+40+1,c+100+40+2) ⟨hx,hj,by simp only;omega,by simp only;omega,h18,by simp only;omega⟩ (by simp only;omega) rfl rfl ?_ ?_ ?_
       ·simp only;omega
       iterate 2 (case _=>(first | exact yU (ja6 @Zg2.eq_1 @hX @hXl @unR.eq_1 @rdR.eq_1 @hn0') | refine yR (ja6 @Zg2.eq_1 @hX @hXl @unR.eq_1 @rdR.eq_1 @hn0') ?_))
      have d16:decide ((sy:Int)=16)=false:=decide_eq_false (by omega)
      by_cases e17:sy=17
      ·subst e17
       obtain rfl:V=0:=hV
       obtain rfl:N=3:=hN1
       obtain rfl:Bt=3:=hBt
       repeat (first | refine zR (ja2 @unR.eq_1 @Zg2.eq_1) ?_ | exact zU (ja2 @unR.eq_1 @Zg2.eq_1))
       refine Zag [(1001,0)] 2000 hN (by simp) (by simp) ?_ ?_ ?_
       iterate 2 (case _=>(first | exact yU (ja2 @rdR.eq_1 @Zac) | refine yR (ja2 @rdR.eq_1 @Zac) ?_))
       repeat (first | refine zR (ja2 @unR.eq_1 @rdR.eq_1) ?_ | exact zU (ja2 @unR.eq_1 @rdR.eq_1))
       refine Zag [(1000,0),(1001,0),(1002,0)] 3000 hA (by simp) (by simp) ?_ ?_ ?_
       iterate 2 (case _=>(first | exact yU (ja4 @unI.eq_1 @unR.eq_1 @rdR.eq_1 @Zaa) | refine yR (ja4 @unI.eq_1 @unR.eq_1 @rdR.eq_1 @Zaa) ?_))
       repeat (first | refine zR (ja6 @unO.eq_1 @unR.eq_1 @rdR.eq_1 @Zaa @okI.eq_1 @d3) ?_ | exact zU (ja6 @unO.eq_1 @unR.eq_1 @rdR.eq_1 @Zaa @okI.eq_1 @d3))
       refine Zfo 65 (c+100+40) (nl:=false) (cells:=[.sc (.int .i64 0)]) [.sl false none [.sc (.int .i64 ((0:Nat):Int))],int (a:Int)] _ (by (first | exact yU @nA.eq_1 | refine yR @nA.eq_1 ?_)) (by (first | exact yU @nA.eq_1 | refine yR @nA.eq_1 ?_)) ?_ (by (first | exact yT | refine yS ?_)) hRp ?_
       ·(first | exact yU (ja2 fR @nA.eq_1) | refine yR (ja2 fR @nA.eq_1) ?_)
       repeat (first | refine zR (ja4 @hX @hXl @hem @Bool.and_false) ?_ | exact zU (ja4 @hX @hXl @hem @Bool.and_false))
       refine At.of (f,l++X,j,c+100+40+1,c+100+40+2) ⟨hx,hj,by simp only;omega,by simp only;omega,h18,by simp only;omega⟩ (by simp only;omega) rfl rfl ?_ ?_ ?_
       ·simp only;omega
       iterate 2 (case _=>(first | exact yU (ja6 @Zg2.eq_1 @hX @hXl @unR.eq_1 @rdR.eq_1 @hn0') | refine yR (ja6 @Zg2.eq_1 @hX @hXl @unR.eq_1 @rdR.eq_1 @hn0') ?_))
      have d17:decide ((sy:Int)=17)=false:=decide_eq_false (by omega)
      by_cases e18:sy=18
      ·subst e18
       obtain rfl:V=0:=hV
       obtain rfl:N=11:=hN1
       obtain rfl:Bt=7:=hBt
       repeat (first | refine zR (ja2 @unR.eq_1 @Zg2.eq_1) ?_ | exact zU (ja2 @unR.eq_1 @Zg2.eq_1))
       refine Zag [(1001,0)] 2000 hN (by simp) (by simp) ?_ ?_ ?_
       iterate 2 (case _=>(first | exact yU (ja2 @rdR.eq_1 @Zac) | refine yR (ja2 @rdR.eq_1 @Zac) ?_))
       repeat (first | refine zR (ja2 @unR.eq_1 @rdR.eq_1) ?_ | exact zU (ja2 @unR.eq_1 @rdR.eq_1))
       refine Zag [(1000,0),(1001,0),(1002,0)] 3000 hA (by simp) (by simp) ?_ ?_ ?_
       iterate 2 (case _=>(first | exact yU (ja4 @unI.eq_1 @unR.eq_1 @rdR.eq_1 @Zaa) | refine yR (ja4 @unI.eq_1 @unR.eq_1 @rdR.eq_1 @Zaa) ?_))
       repeat (first | refine zR (ja6 @unO.eq_1 @unR.eq_1 @rdR.eq_1 @Zaa @okI.eq_1 @d3) ?_ | exact zU (ja6 @unO.eq_1 @unR.eq_1 @rdR.eq_1 @Zaa @okI.eq_1 @d3))
       refine Zfo 65 (c+100+40) (nl:=false) (cells:=[.sc (.int .i64 0)]) [.sl false none [.sc (.int .i64 ((0:Nat):Int))],int (a:Int)] _ (by (first | exact yU @nA.eq_1 | refine yR @nA.eq_1 ?_)) (by (first | exact yU @nA.eq_1 | refine yR @nA.eq_1 ?_)) ?_ (by (first | exact yT | refine yS ?_)) hRp ?_
       ·(first | exact yU (ja2 fR @nA.eq_1) | refine yR (ja2 fR @nA.eq_1) ?_)
       repeat (first | refine zR (ja4 @hX @hXl @hem @Bool.and_false) ?_ | exact zU (ja4 @hX @hXl @hem @Bool.and_false))
       refine At.of (f,l++X,j,c+100+40+1,c+100+40+2) ⟨hx,hj,by simp only;omega,by simp only;omega,h18,by simp only;omega⟩ (by simp only;omega) rfl rfl ?_ ?_ ?_
       ·simp only;omega
       iterate 2 (case _=>(first | exact yU (ja6 @Zg2.eq_1 @hX @hXl @unR.eq_1 @rdR.eq_1 @hn0') | refine yR (ja6 @Zg2.eq_1 @hX @hXl @unR.eq_1 @rdR.eq_1 @hn0') ?_))
      have d18:decide ((sy:Int)=18)=false:=decide_eq_false (by omega)
      obtain rfl:V=sy:=by rw [hV,lsV,if_neg e16,if_neg (by omega)]
      obtain rfl:N=1:=by rw [hN1,lsN,if_neg (by omega),if_neg e18]
      obtain rfl:Bt=0:=by rw [hBt,lsB,if_neg e16,if_neg e17,if_neg e18]
      repeat (first | refine zR (ja2 @unR.eq_1 @Zg2.eq_1) ?_ | exact zU (ja2 @unR.eq_1 @Zg2.eq_1))
      refine Zag [(1001,0)] 2000 hN (by simp) (by simp) ?_ ?_ ?_
      iterate 2 (case _=>(first | exact yU (ja2 @rdR.eq_1 @Zac) | refine yR (ja2 @rdR.eq_1 @Zac) ?_))
      repeat (first | refine zR (ja5 @unR.eq_1 @rdR.eq_1 @d16 @d17 @d18) ?_ | exact zU (ja5 @unR.eq_1 @rdR.eq_1 @d16 @d17 @d18))
      refine Zag [(1000,0),(1001,0),(1002,0)] 3000 hA (by simp) (by simp) ?_ ?_ ?_
      iterate 2 (case _=>(first | exact yU (ja4 @unI.eq_1 @unR.eq_1 @rdR.eq_1 @Zaa) | refine yR (ja4 @unI.eq_1 @unR.eq_1 @rdR.eq_1 @Zaa) ?_))
      repeat (first | refine zR (ja6 @unO.eq_1 @unR.eq_1 @rdR.eq_1 @Zaa @okI.eq_1 @d3) ?_ | exact zU (ja6 @unO.eq_1 @unR.eq_1 @rdR.eq_1 @Zaa @okI.eq_1 @d3))
      refine Zfo 65 (c+100+40) (nl:=false) (cells:=[nA V]) [.sl false none [.sc (.int .i64 (V:Int))],int (a:Int)] _ (by (first | exact yU @nA.eq_1 | refine yR @nA.eq_1 ?_)) (by (first | exact yU @nA.eq_1 | refine yR @nA.eq_1 ?_)) ?_ (by (first | exact yT | refine yS ?_)) hRp ?_
      ·(first | exact yU (ja2 fR @nA.eq_1) | refine yR (ja2 fR @nA.eq_1) ?_)
      repeat (first | refine zR (ja4 @hX @hXl @hem @Bool.and_false) ?_ | exact zU (ja4 @hX @hXl @hem @Bool.and_false))
      refine At.of (f,l++X,j,c+100+40+1,c+100+40+2) ⟨hx,hj,by simp only;omega,by simp only;omega,h18,by simp only;omega⟩ (by simp only;omega) rfl rfl ?_ ?_ ?_
      ·simp only;omega
      iterate 2 (case _=>(first | exact yU (ja6 @Zg2.eq_1 @hX @hXl @unR.eq_1 @rdR.eq_1 @hn0') | refine yR (ja6 @Zg2.eq_1 @hX @hXl @unR.eq_1 @rdR.eq_1 @hn0') ?_))
  ·simp only [ZAv,if_neg c2,BR.bnd] at hx
   have de:decide ((e:Int)=0)=false:=decide_eq_false (by omega)
   subst hx
   repeat (first | refine zR (ja2 @unR.eq_1 @Zg2.eq_1) ?_ | exact zU (ja2 @unR.eq_1 @Zg2.eq_1))
   refine Zag [(1001,0)] 2000 hN (by simp) (by simp) ?_ ?_ ?_
   iterate 2 (case _=>(first | exact yU (ja2 @rdR.eq_1 @Zac) | refine yR (ja2 @rdR.eq_1 @Zac) ?_))
   repeat (first | refine zR (ja5 @Zek.eq_1 @Zek.eq_2 @ZbC.eq_1 @ZbC.eq_2 @de) ?_ | exact zU (ja5 @Zek.eq_1 @Zek.eq_2 @ZbC.eq_1 @ZbC.eq_2 @de))
   omega
 ·simp only [decide_eq_false_iff_not] at h
  have hle:n≤l.length:=by omega
  rw [if_pos hle] at hx
  simp only [BT.run] at hx
  subst hx
  have hn1:nl0 l.length=false:=Zcg (by omega)
  have htk:l.take l.length=l:=List.take_length
  refine SWp.frzo 8 g (nl:=false) (cells:=l.map nA) (by (first | exact yU @hn1 | refine yR @hn1 ?_)) Zab ?_
  refine SWp.le (Zau (N:=70) (gc:=c) (l:=[(8,.sl false none (l.map nA))]) (h:=[(1000,0,.row false (unR t most 0 out.length)),(1001,0,.row false (rdR nl b p)),(1002,0,.row (nl0 out.length) (out.map u8))]) rfl ?_ ?_ ?_) ?_
  ·exact Nat.le_refl _
  iterate 2 (case _=>(first | exact yU (ja7 fR iR @htk @unR.eq_1 @rdR.eq_1 @ZAB @false_and) | refine yR (ja7 fR iR @htk @unR.eq_1 @rdR.eq_1 @ZAB @false_and) ?_))
  repeat (first | refine zR (ja7 @Zek.eq_1 @Zek.eq_2 @ZbC.eq_1 @ZbC.eq_2 @unO.eq_1 @unR.eq_1 @rdR.eq_1) ?_ | exact zU (ja7 @Zek.eq_1 @Zek.eq_2 @ZbC.eq_1 @ZbC.eq_2 @unO.eq_1 @unR.eq_1 @rdR.eq_1))
  omega
theorem ZEx {b:List UInt8} {th:List Nat} {n:Nat} (hth:th.length=19):∀ (f:Nat) (l:List Nat) (i:Nat) (ls:List Nat) (j:Nat),l.length≤n→(∀ y∈l,y≤15)→i≤8*b.length→(lsT th n f l).run (Zah b) i = .ok ls j→ls.length=n∧∀ y∈ls,y≤15:=by
 intro f
 induction f with
 | zero=>intro l i ls j _ _ _ h;simp [lsT,BT.run] at h
 | succ f ih =>
  intro l i ls j hl h15 hi h
  rw [lsT] at h
  by_cases c:n≤l.length
  ·rw [if_pos c] at h
   simp only [BT.run,BR.ok.injEq] at h
   obtain ⟨rfl,rfl⟩:=h
   exact ⟨by omega,h15⟩
  ·rw [if_neg c,Zav] at h
   have hrn:=ZoJ (l:=th) (B:=Zah b) (i:=i)
   have hsy:=ZoL (l:=th) (B:=(Zah b).drop i) 15 0 0
   cases h1:(ZyE th 15 0 0).run (Zah b) i with
   | no e=>rw [h1] at h;cases h
   | ok s k =>
    rw [h1] at h
    have hk:=(Zgc h1).2 (by rw [Zad];exact hi)
    rw [Zad] at hk
    rw [h1,ZAv] at hrn
    split at hrn
    ·rename_i e0
     simp only [BR.ok.injEq] at hrn
     have hs:=(hsy e0).1
     rw [←hrn.1,hth] at hs
     simp only [BR.bnd] at h
     by_cases c2:s=16∧l=[]
     ·rw [if_pos c2] at h;simp [BT.run] at h
     ·rw [if_neg c2,Zav] at h
      cases h2:(Zhy (lsN s) (lsB s)).run (Zah b) k with
      | no e=>rw [h2] at h;cases h
      | ok t k2 =>
       rw [h2] at h
       have hk2:=(Zgc h2).2 (by rw [Zad];exact hk)
       rw [Zad] at hk2
       simp only [BR.bnd] at h
       by_cases c3:n<l.length+t
       ·rw [if_pos c3] at h;simp [BT.run] at h
       ·rw [if_neg c3] at h
        refine ih _ _ _ _ (by rw [List.length_append,List.length_replicate];omega) ?_ hk2 h
        intro y hy
        rcases List.mem_append.1 hy with hy | hy
        ·exact h15 y hy
        ·rw [(List.mem_replicate.1 hy).2]
         unfold lsV
         split
         ·rename_i e16
          have hne:l≠[]:=fun h=>c2 ⟨e16,h⟩
          have h0:l.length-1<l.length:=by have:=List.length_pos_iff.2 hne;omega
          have:l.getD (l.length-1) 0=l[l.length-1]:=by simp [List.getD,List.getElem?_eq_getElem h0]
          rw [this];exact h15 _ (List.getElem_mem h0)
         ·split
          ·omega
          ·omega
    ·cases hrn
theorem ZAL {b:List UInt8} {n i j:Nat} {th:List Nat} (hi:i≤8*b.length) (h:(Zyd n).run (Zah b) i = .ok th j):th.length=19∧ZnQ th=true:=by
 rw [Zyd,Zav] at h
 cases h1:(ZvI n 0 (List.replicate 19 0)).run (Zah b) i with
 | no e=>rw [h1] at h;cases h
 | ok t k =>
  rw [h1] at h
  simp only [BR.bnd] at h
  have h2:=ZAK n 0 i k _ t (by simp) (by simp) hi h1
  by_cases c:ZnQ t=true
  ·rw [if_pos c] at h
   simp only [BT.run,BR.ok.injEq] at h
   rw [←h.1]
   exact ⟨h2.1,c⟩
  ·rw [if_neg c] at h;simp [BT.run] at h
theorem ZGg {l d:List Nat} (h:ZB8 l d=true):l.length≤320∧ZaA l≤32768∧ZaA d≤32768:=by
 simp only [ZB8,Bool.and_eq_true] at h
 have h2:=h.1.2
 simp only [ZnQ,decide_eq_true_eq] at h2
 exact ⟨h2.1,by omega,Zqf h.2⟩
theorem ZGh {b:List UInt8} {i j:Nat} {p:List Nat × List Nat} (hi:i≤8*b.length) (h:Zye.run (Zah b) i = .ok p j):p.1.length≤320∧ZaA p.1≤32768∧p.2.length≤320∧ZaA p.2≤32768:=by
 rw [Zye,Zav,ZeH hi] at h
 split at h
 ·rename_i c1
  simp only [BR.bnd] at h
  split at h
  ·simp [BT.run] at h
  ·rename_i c2
   rw [Zav] at h
   cases h1:(Zyd (Zb6 b i 14 / 1024+4)).run (Zah b) (i+14) with
   | no e=>rw [h1] at h;cases h
   | ok th k =>
    rw [h1] at h
    have hk:=(Zgc h1).2 (by rw [Zad];exact c1)
    rw [Zad] at hk
    simp only [BR.bnd] at h
    rw [Zav] at h
    cases h2:(lsT th (Zb6 b i 14 % 32+257+(Zb6 b i 14 / 32 % 32+1)) 400 []).run (Zah b) k with
    | no e=>rw [h2] at h;cases h
    | ok ls k2 =>
     rw [h2] at h
     have hls:=ZEx (ZAL c1 h1).1 400 [] k ls k2 (Nat.zero_le _) (by simp) hk h2
     simp only [BR.bnd] at h
     split at h
     ·rename_i c3
      simp only [BT.run,BR.ok.injEq] at h
      obtain ⟨rfl,-⟩:=h
      have:=ZGg c3
      refine ⟨this.1,this.2.1,?_,this.2.2⟩
      rw [List.length_drop];omega
     ·simp [BT.run] at h
 ·cases h
set_option maxHeartbeats 1000000 in
set_option maxRecDepth 100000 in
theorem ZoO [Tabs Tryz.prog] (ht:Tabs.tab Tryz.prog 1=some (Zhz.map nA)) (t:Bool) (most:Nat) (nl:Bool) (b:List UInt8) (hb:b.length≤1000000) (i:Nat) (hi:i≤8*b.length) (out:List UInt8) (r:BR (List Nat × List Nat)) (hr:Zye.run (Zah b) i=r) :
  HCon Tryz.prog ZcC [.op 1000 0 0] (unI t most nl b i out) (Zee (fun p=>cds p.1 p.2) r) (ZbC t most nl b out r) 600000:=by
 refine HCon.of' mix Tryz.func59 rfl Tryz.ntmps59 Zfr Zfs (by simp) (by simp [AV.gl,AV.gl.glL,int]) ZeI ?_
 unfold ZcD
 rw [Zye,Zav,ZeH hi] at hr
 by_cases c1:i+14≤8*b.length
 ·rw [if_pos c1] at hr
  simp only [BR.bnd] at hr
  have hT:=Zdw nl b hb i hi 14 (by omega) c1
  have hcl:=Zjx (b:=b) (i:=i) (n:=14)
  obtain ⟨c,hc⟩:∃ c,c=Zb6 b i 14:=⟨_,rfl⟩
  rw [←hc] at hT hr hcl
  obtain ⟨L,hL⟩:∃ L,L=c % 32+257:=⟨_,rfl⟩
  obtain ⟨D,hD⟩:∃ D,D=c / 32 % 32+1:=⟨_,rfl⟩
  obtain ⟨N,hN⟩:∃ N,N=c / 1024+4:=⟨_,rfl⟩
  rw [←hL,←hD,←hN] at hr
  have eL:((c % 32:Nat):Int)+257=(L:Int):=by omega
  have eD:((c / 32 % 32:Nat):Int)+1=(D:Int):=by omega
  have eN:((c / 1024:Nat):Int)+4=(N:Int):=by omega
  repeat (first | refine zR (ja2 @unI.eq_1 @unR.eq_1) ?_ | exact zU (ja2 @unI.eq_1 @unR.eq_1))
  refine Zag [(1001,0)] 2000 hT (by simp) (by simp) ?_ ?_ ?_
  iterate 2 (case _=>(first | exact yU @rdR.eq_1 | refine yR @rdR.eq_1 ?_))
  by_cases c2:286<L∨30<D
  ·rw [if_pos c2] at hr
   simp only [BT.run] at hr
   subst hr
   by_cases c3:286<L
   ·have d3:decide ((286:Int)<(L:Int))=true:=decide_eq_true (by omega)
    repeat (first | refine zR (ja8 @unR.eq_1 @rdR.eq_1 @eL @eD @d3 @Zee.eq_1 @Zee.eq_2 (ja2 @ZbC.eq_1 @ZbC.eq_2)) ?_ | exact zU (ja8 @unR.eq_1 @rdR.eq_1 @eL @eD @d3 @Zee.eq_1 @Zee.eq_2 (ja2 @ZbC.eq_1 @ZbC.eq_2)))
   ·have d3:decide ((286:Int)<(L:Int))=false:=decide_eq_false (by omega)
    have d4:decide ((30:Int)<(D:Int))=true:=decide_eq_true (by omega)
    repeat (first | refine zR (ja8 @unR.eq_1 @rdR.eq_1 @eL @eD @d3 @d4 @Zee.eq_1 (ja3 @Zee.eq_2 @ZbC.eq_1 @ZbC.eq_2)) ?_ | exact zU (ja8 @unR.eq_1 @rdR.eq_1 @eL @eD @d3 @d4 @Zee.eq_1 (ja3 @Zee.eq_2 @ZbC.eq_1 @ZbC.eq_2)))
  ·rw [if_neg c2,Zav] at hr
   have d3:decide ((286:Int)<(L:Int))=false:=decide_eq_false (by omega)
   have d4:decide ((30:Int)<(D:Int))=false:=decide_eq_false (by omega)
   repeat (first | refine zR (ja7 @unR.eq_1 @rdR.eq_1 @eL @eD @eN @d3 @d4) ?_ | exact zU (ja7 @unR.eq_1 @rdR.eq_1 @eL @eD @eN @d3 @d4))
   have hTe:=ZsQ ht t most nl b hb (i+14) c1 out N (by omega) _ rfl
   have hTi:=fun a j (h:(Zyd N).run (Zah b) (i+14) = .ok a j)=>And.intro ((Zgc h).2 (by rw [Zad];exact c1)) (ZAL c1 h)
   have hTs:=fun e (h:(Zyd N).run (Zah b) (i+14) = .no e)=>Zjy ZvM h
   obtain ⟨r1,hr1⟩:∃ r1,r1=(Zyd N).run (Zah b) (i+14):=⟨_,rfl⟩
   rw [←hr1] at hTe hTi hTs hr
   refine Zag [(1000,0),(1001,0),(1002,0)] 3000 hTe (by simp) (by simp) ?_ ?_ ?_
   iterate 2 (case _=>(first | exact yU (ja4 @unI.eq_1 @unR.eq_1 @rdR.eq_1 @Zaa) | refine yR (ja4 @unI.eq_1 @unR.eq_1 @rdR.eq_1 @Zaa) ?_))
   cases r1 with
   | no e =>
    simp only [BR.bnd] at hr
    subst hr
    have he:=hTs e rfl
    have de:decide ((e:Int)=0)=false:=decide_eq_false (by omega)
    repeat (first | refine zR (ja7 @unR.eq_1 @rdR.eq_1 @Zee.eq_1 @Zee.eq_2 @ZbC.eq_1 @ZbC.eq_2 @de) ?_ | exact zU (ja7 @unR.eq_1 @rdR.eq_1 @Zee.eq_1 @Zee.eq_2 @ZbC.eq_1 @ZbC.eq_2 @de))
   | ok th j =>
    obtain ⟨hj,hth,hfu⟩:=hTi th j rfl
    rw [Zad] at hj
    simp only [BR.bnd] at hr
    rw [Zav] at hr
    have hK:ZaA th≤32768:=by simp only [ZnQ,decide_eq_true_eq] at hfu;omega
    have hLs:=Zrk t most nl b hb j hj out th hth hK (L+D) (by omega) (by omega) _ rfl
    have hLi:=fun a q (h:(lsT th (L+D) 400 []).run (Zah b) j = .ok a q)=>ZEx hth 400 [] j a q (Nat.zero_le _) (by simp) hj h
    have hLe:=fun e (h:(lsT th (L+D) 400 []).run (Zah b) j = .no e)=>Zjy (ZAA _ _) h
    obtain ⟨r2,hr2⟩:∃ r2,r2=(lsT th (L+D) 400 []).run (Zah b) j:=⟨_,rfl⟩
    rw [←hr2] at hLs hLi hLe hr
    repeat (first | refine zR (ja8 @unR.eq_1 @rdR.eq_1 @Zee.eq_1 @Zee.eq_2 @ZbC.eq_1 @ZbC.eq_2 @unO.eq_1 (ja2 @Zaa @ZnS)) ?_ | exact zU (ja8 @unR.eq_1 @rdR.eq_1 @Zee.eq_1 @Zee.eq_2 @ZbC.eq_1 @ZbC.eq_2 @unO.eq_1 (ja2 @Zaa @ZnS)))
    refine Zag [(1000,0),(1001,0),(1002,0)] 4000 hLs (by simp) (by simp) ?_ ?_ ?_
    iterate 2 (case _=>(first | exact yU (ja5 @unI.eq_1 @unR.eq_1 @rdR.eq_1 @Zaa @ZnS) | refine yR (ja5 @unI.eq_1 @unR.eq_1 @rdR.eq_1 @Zaa @ZnS) ?_))
    cases r2 with
    | no e =>
     simp only [BR.bnd] at hr
     subst hr
     have he:=hLe e rfl
     have de:decide ((e:Int)=0)=false:=decide_eq_false (by omega)
     repeat (first | refine zR (ja8 @unR.eq_1 @rdR.eq_1 @Zek.eq_1 @Zek.eq_2 @Zee.eq_1 @Zee.eq_2 @ZbC.eq_1 (ja2 @ZbC.eq_2 @de)) ?_ | exact zU (ja8 @unR.eq_1 @rdR.eq_1 @Zek.eq_1 @Zek.eq_2 @Zee.eq_1 @Zee.eq_2 @ZbC.eq_1 (ja2 @ZbC.eq_2 @de)))
    | ok ls q =>
     obtain ⟨hll,h15⟩:=hLi ls q rfl
     simp only [BR.bnd] at hr
     have hCo:=Zrj false false (ls.take L) (ls.drop L) (fun x hx=>h15 x (List.mem_of_mem_take hx)) (fun x hx=>h15 x (List.mem_of_mem_drop hx)) (by rw [List.length_take];omega) (by rw [List.length_take];omega) (by rw [List.length_drop];omega)
     have hLL:(L:Int)≤((ls.length:Nat):Int):=by omega
     repeat (first | refine zR (ja8 @unR.eq_1 @rdR.eq_1 @Zek.eq_1 @Zek.eq_2 @Zee.eq_1 @Zee.eq_2 @ZbC.eq_1 (ja4 @ZbC.eq_2 @unO.eq_1 @Zaa iR)) ?_ | exact zU (ja8 @unR.eq_1 @rdR.eq_1 @Zek.eq_1 @Zek.eq_2 @Zee.eq_1 @Zee.eq_2 @ZbC.eq_1 (ja4 @ZbC.eq_2 @unO.eq_1 @Zaa iR)))
     by_cases c5:ZB8 (ls.take L) (ls.drop L)=true
     ·rw [if_pos c5] at hr hCo
      simp only [BT.run] at hr
      subst hr
      refine Zay _ (.inl ⟨by simp only [AV.free,AV.free.freeL,Zab,Bool.and_self],hCo⟩) ?_
      repeat (first | refine zR (ja8 @unR.eq_1 @rdR.eq_1 @Zek.eq_1 @Zek.eq_2 @Zee.eq_1 @Zee.eq_2 @ZbC.eq_1 (ja4 @ZbC.eq_2 @unO.eq_1 @Zaa iR)) ?_ | exact zU (ja8 @unR.eq_1 @rdR.eq_1 @Zek.eq_1 @Zek.eq_2 @Zee.eq_1 @Zee.eq_2 @ZbC.eq_1 (ja4 @ZbC.eq_2 @unO.eq_1 @Zaa iR)))
      all_goals trace_state
     ·rw [if_neg c5] at hr hCo
      simp only [BT.run] at hr
      subst hr
      refine Zay _ (.inl ⟨by simp only [AV.free,AV.free.freeL,Zab,Bool.and_self],hCo⟩) ?_
      repeat (first | refine zR (ja8 @unR.eq_1 @rdR.eq_1 @Zek.eq_1 @Zek.eq_2 @Zee.eq_1 @Zee.eq_2 @ZbC.eq_1 (ja4 @ZbC.eq_2 @unO.eq_1 @Zaa iR)) ?_ | exact zU (ja8 @unR.eq_1 @rdR.eq_1 @Zek.eq_1 @Zek.eq_2 @Zee.eq_1 @Zee.eq_2 @ZbC.eq_1 (ja4 @ZbC.eq_2 @unO.eq_1 @Zaa iR)))
 ·rw [if_neg c1] at hr
  simp only [BR.bnd] at hr
  subst hr
  have hT:=ZdG nl b hb i hi 14 (decide_eq_false (by omega))
  repeat (first | refine zR (ja2 @unI.eq_1 @unR.eq_1) ?_ | exact zU (ja2 @unI.eq_1 @unR.eq_1))
  refine Zag [(1001,0)] 2000 hT (by simp) (by simp) ?_ ?_ ?_
  iterate 2 (case _=>(first | exact yU @rdR.eq_1 | refine yR @rdR.eq_1 ?_))
  repeat (first | refine zR (ja6 @unR.eq_1 @rdR.eq_1 @Zee.eq_1 @Zee.eq_2 @ZbC.eq_1 @ZbC.eq_2) ?_ | exact zU (ja6 @unR.eq_1 @rdR.eq_1 @Zee.eq_1 @Zee.eq_2 @ZbC.eq_1 @ZbC.eq_2))
theorem Zjz {ρ:Nat→Nat→Nat × Nat} {l d:List Nat}:ren ρ (.fp (.agg [.fp (.agg (trR l)) 0,.fp (.agg (trR d)) 0]) 0) = .fp (.agg [.fp (.agg (trR l)) 0,.fp (.agg (trR d)) 0]) 0:=ZbZ
theorem ZaW:fxA true=cds ZAx ZAy:=rfl
theorem ZeX:fxA false = .sc (.pointer none):=rfl
theorem ZsR {l d:List Nat}:Zaq (cds l d)=some [cds l d]:=rfl
def ZGV (b:List UInt8) (i:Nat):Bool:=decide (i+3≤8*b.length)&&decide (Zb6 b i 3 % 2=1)
def ZeY (b:List UInt8) (i:Nat):BR (Bool × List UInt8)→AV
 | .ok p _=>.tup [boo p.1,int 0]
 | .no e=>.tup [boo (ZGV b i),int (e:Int)]
def fxN (t:Bool) (b:List UInt8) (i:Nat):Bool:=t || decide (Zb6 b i 3 / 2=1)
def ZeZ (K:Nat) (t:Bool) (most:Nat) (nl:Bool) (b:List UInt8) (i:Nat):BR (Bool × List UInt8)→List (Nat × Nat × AO)
 | .ok p j=>unO K (fxN t b i) most nl b j p.2
 | .no _=>[]
def KB (F:Nat):Nat:=1000*F+700000
set_option maxHeartbeats 2000000 in
set_option maxRecDepth 100000 in
theorem ZuN [Tabs Tryz.prog] (ht:Tabs.tab Tryz.prog 1=some (Zhz.map nA)) (t:Bool) (most:Nat) (hm:most≤16777216) (nl:Bool) (b:List UInt8) (hb:b.length≤1000000) (hnl:nl=true→b=[]) (i:Nat) (hi:i≤8*b.length) (out:List UInt8) (ho:out.length≤most) (F:Nat) (hF:8*b.length<F) (r:BR (Bool × List UInt8)) (hr:(ZvJ most F out).run (Zah b) i=r) :
  HCon Tryz.prog Zcc [.op 1000 0 0] (unI t most nl b i out) (ZeY b i r) (ZeZ (KB F) t most nl b i r) (KB F+1):=by
 refine HCon.of' mix Tryz.func26 rfl Tryz.ntmps26 ZdB ZdC (by simp) (by simp [AV.gl,AV.gl.glL,int]) ZeI ?_
 unfold Zce
 rw [ZvJ,Zav,ZeH hi] at hr
 by_cases c1:i+3≤8*b.length
 ·rw [if_pos c1] at hr
  simp only [BR.bnd] at hr
  rw [Zav] at hr
  have hT:=Zdw nl b hb i hi 3 (by omega) c1
  have h7:=ZAJ (b:=b) (i:=i)
  have hbit:ZGV b i=decide (Zb6 b i 3 % 2=1):=by rw [ZGV,decide_eq_true c1,Bool.true_and]
  have hfx:fxN t b i=(t || decide (Zb6 b i 3 / 2=1)):=rfl
  obtain ⟨h,hh⟩:∃ h,h=Zb6 b i 3:=⟨_,rfl⟩
  rw [←hh] at hT hr h7 hbit hfx
  have hlast:decide (((h % 2:Nat):Int)=1)=decide (h % 2=1):=decide_eq_decide.2 (by omega)
  have hl2:decide ((h:Int)=1)=decide (h=1):=decide_eq_decide.2 (by omega)
  repeat (first | refine zR (ja2 @unI.eq_1 @unR.eq_1) ?_ | exact zU (ja2 @unI.eq_1 @unR.eq_1))
  refine Zag [(1001,0)] 2000 hT (by simp) (by simp) ?_ ?_ ?_
  iterate 2 (case _=>(first | exact yU @rdR.eq_1 | refine yR @rdR.eq_1 ?_))
  have hse:=fun e (q:(ZuK most F out (h / 2)).run (Zah b) (i+3) = .no e)=>Zjy ZvO q
  obtain ⟨r1,hr1⟩:∃ r1,(ZuK most F out (h / 2)).run (Zah b) (i+3)=r1:=⟨_,rfl⟩
  rw [hr1] at hr hse
  rw [ZuK] at hr1
  obtain ⟨p,hp⟩:∃ p,p=h / 2:=⟨_,rfl⟩
  rw [←hp] at hr1 hfx
  by_cases k0:p=0
  ·rw [if_pos k0] at hr1
   subst k0
   have hfx:fxN t b i=t:=by rw [hfx];simp
   have hS:=Zm9 t most hm nl b hb hnl (i+3) c1 out ho r1 hr1
   repeat (first | refine zR (ja4 @unR.eq_1 @rdR.eq_1 hp.symm @Nat.pow_one) ?_ | exact zU (ja4 @unR.eq_1 @rdR.eq_1 hp.symm @Nat.pow_one))
   refine Zag [(1000,0),(1001,0),(1002,0)] 3000 hS (by simp) (by simp) ?_ ?_ ?_
   iterate 2 (case _=>(first | exact yU (ja4 @unI.eq_1 @unR.eq_1 @rdR.eq_1 @Zaa) | refine yR (ja4 @unI.eq_1 @unR.eq_1 @rdR.eq_1 @Zaa) ?_))
   cases r1 with
   | no e =>
    simp only [BR.bnd] at hr
    subst hr
    repeat (first | refine zR (ja8 @Zco.eq_1 @Zco.eq_2 @Zcp.eq_1 @Zcp.eq_2 @ZeY.eq_1 @ZeY.eq_2 @ZeZ.eq_1 (ja4 @ZeZ.eq_2 @hlast @hl2 @hbit)) ?_ | exact zU (ja8 @Zco.eq_1 @Zco.eq_2 @Zcp.eq_1 @Zcp.eq_2 @ZeY.eq_1 @ZeY.eq_2 @ZeZ.eq_1 (ja4 @ZeZ.eq_2 @hlast @hl2 @hbit)))
    simp only [KB];omega
   | ok o j =>
    simp only [BR.bnd,BT.run] at hr
    subst hr
    iterate 1 (first | refine zR (ja8 @Zco.eq_1 @Zco.eq_2 @Zcp.eq_1 @Zcp.eq_2 @unO.eq_1 @unR.eq_1 @rdR.eq_1 (ja2 @Zaa @ZbZ)) ?_ | exact zU (ja8 @Zco.eq_1 @Zco.eq_2 @Zcp.eq_1 @Zcp.eq_2 @unO.eq_1 @unR.eq_1 @rdR.eq_1 (ja2 @Zaa @ZbZ)))
    refine SWp.le (Zau (N:=56) (gc:=KB F) (l:=[(3,int 0),(4,int (h:Int))]) (h:=[(1000,0,.row false (unR t most 104 o.length)),(1001,0,.row false (rdR nl b j)),(1002,104,.row (nl0 o.length) (o.map u8))]) rfl ?_ ?_ ?_) ?_
    ·simp only [KB];omega
    iterate 2 (case _=>(first | exact yU (ja3 @unR.eq_1 @rdR.eq_1 @ZaW) | refine yR (ja3 @unR.eq_1 @rdR.eq_1 @ZaW) ?_))
    refine SWp.renew 1002 104 (o:=.row (nl0 o.length) (o.map u8)) (by (first | exact yT | refine yS ?_)) ?_
    refine SWp.le (Zau (N:=56) (gc:=KB F+1) (l:=[(3,int 0),(4,int (h:Int))]) (h:=[(1000,0,.row false (unR t most (KB F) o.length)),(1001,0,.row false (rdR nl b j)),(1002,KB F,.row (nl0 o.length) (o.map u8))]) rfl ?_ ?_ ?_) ?_
    ·exact Nat.le_refl _
    iterate 2 (case _=>(first | exact yU (ja7 @Zbm @Zbn @unR.eq_1 @rdR.eq_1 @Zaa @ZbZ @ZaW) | refine yR (ja7 @Zbm @Zbn @unR.eq_1 @rdR.eq_1 @Zaa @ZbZ @ZaW) ?_))
    repeat (first | refine zR (ja8 @ZeY.eq_1 @ZeY.eq_2 @ZeZ.eq_1 @ZeZ.eq_2 @unO.eq_1 @unR.eq_1 @rdR.eq_1 (ja3 @hfx @hlast @hl2)) ?_ | exact zU (ja8 @ZeY.eq_1 @ZeY.eq_2 @ZeZ.eq_1 @ZeZ.eq_2 @unO.eq_1 @unR.eq_1 @rdR.eq_1 (ja3 @hfx @hlast @hl2)))
  ·rw [if_neg k0] at hr1
   have d0:decide ((p:Int)=0)=false:=decide_eq_false (by omega)
   by_cases k1:p=1
   ·rw [if_pos k1] at hr1
    subst k1
    have hfx:fxN t b i=true:=by rw [hfx];simp
    have hS:=ZlK true most hm nl b hb (i+3) c1 out ho ZAx ZAy (by rw [ZhC.2.1];omega) (by rw [ZhC.2.2];omega) (by rw [ZhD.2.1];omega) (by rw [ZhD.2.2];omega) F (by omega) r1 hr1
    cases t with
    | true =>
     repeat (first | refine zR (ja6 @unR.eq_1 @rdR.eq_1 hp.symm @Nat.pow_one @ZaW @cds.eq_1) ?_ | exact zU (ja6 @unR.eq_1 @rdR.eq_1 hp.symm @Nat.pow_one @ZaW @cds.eq_1))
     refine Zag [(1000,0),(1001,0),(1002,0)] 3000 hS (by simp) (by simp) ?_ ?_ ?_
     iterate 2 (case _=>(first | exact yU (ja6 @unI.eq_1 @unR.eq_1 @rdR.eq_1 @Zjz @ZaW @cds.eq_1) | refine yR (ja6 @unI.eq_1 @unR.eq_1 @rdR.eq_1 @Zjz @ZaW @cds.eq_1) ?_))
     cases r1 with
     | no e =>
      simp only [BR.bnd] at hr
      subst hr
      repeat (first | refine zR (ja8 @Zco.eq_1 @Zco.eq_2 @Zcp.eq_1 @Zcp.eq_2 @ZeY.eq_1 @ZeY.eq_2 @ZeZ.eq_1 (ja4 @ZeZ.eq_2 @hlast @hl2 @hbit)) ?_ | exact zU (ja8 @Zco.eq_1 @Zco.eq_2 @Zcp.eq_1 @Zcp.eq_2 @ZeY.eq_1 @ZeY.eq_2 @ZeZ.eq_1 (ja4 @ZeZ.eq_2 @hlast @hl2 @hbit)))
      simp only [KB];omega
     | ok o j =>
      simp only [BR.bnd,BT.run] at hr
      subst hr
      iterate 1 (first | refine zR (ja8 @Zco.eq_1 @Zco.eq_2 @Zcp.eq_1 @Zcp.eq_2 @unO.eq_1 @unR.eq_1 @rdR.eq_1 (ja3 @ZaW @cds.eq_1 @Zjz)) ?_ | exact zU (ja8 @Zco.eq_1 @Zco.eq_2 @Zcp.eq_1 @Zcp.eq_2 @unO.eq_1 @unR.eq_1 @rdR.eq_1 (ja3 @ZaW @cds.eq_1 @Zjz)))
      refine SWp.le (Zau (N:=56) (gc:=KB F) (l:=[(3,int 0),(4,int (h:Int))]) (h:=[(1000,0,.row false (unR true most ((31+(1000*F+1))) o.length)),(1001,0,.row false (rdR nl b j)),(1002,(31+(1000*F+1)),.row (nl0 o.length) (o.map u8))]) rfl ?_ ?_ ?_) ?_
      ·simp only [KB];omega
      iterate 2 (case _=>(first | exact yU (ja4 @unR.eq_1 @rdR.eq_1 @ZaW @cds.eq_1) | refine yR (ja4 @unR.eq_1 @rdR.eq_1 @ZaW @cds.eq_1) ?_))
      refine SWp.renew 1002 ((31+(1000*F+1))) (o:=.row (nl0 o.length) (o.map u8)) (by (first | exact yT | refine yS ?_)) ?_
      refine SWp.le (Zau (N:=56) (gc:=KB F+1) (l:=[(3,int 0),(4,int (h:Int))]) (h:=[(1000,0,.row false (unR true most (KB F) o.length)),(1001,0,.row false (rdR nl b j)),(1002,KB F,.row (nl0 o.length) (o.map u8))]) rfl ?_ ?_ ?_) ?_
      ·exact Nat.le_refl _
      iterate 2 (case _=>(first | exact yU (ja7 @Zbm @Zbn @unR.eq_1 @rdR.eq_1 @ZaW @cds.eq_1 @Zjz) | refine yR (ja7 @Zbm @Zbn @unR.eq_1 @rdR.eq_1 @ZaW @cds.eq_1 @Zjz) ?_))
      repeat (first | refine zR (ja8 @ZeY.eq_1 @ZeY.eq_2 @ZeZ.eq_1 @ZeZ.eq_2 @unO.eq_1 @unR.eq_1 @rdR.eq_1 (ja5 @ZaW @cds.eq_1 @hfx @hlast @hl2)) ?_ | exact zU (ja8 @ZeY.eq_1 @ZeY.eq_2 @ZeZ.eq_1 @ZeZ.eq_2 @unO.eq_1 @unR.eq_1 @rdR.eq_1 (ja5 @ZaW @cds.eq_1 @hfx @hlast @hl2)))
    | false =>
     repeat (first | refine zR (ja5 @unR.eq_1 @rdR.eq_1 hp.symm @Nat.pow_one @ZeX) ?_ | exact zU (ja5 @unR.eq_1 @rdR.eq_1 hp.symm @Nat.pow_one @ZeX))
     refine Zay _ (.inl ⟨rfl,ZnF⟩) ?_
     repeat (first | refine zR (ja3 @unR.eq_1 @rdR.eq_1 @ZsR) ?_ | exact zU (ja3 @unR.eq_1 @rdR.eq_1 @ZsR))
     refine Zag [(1000,0),(1001,0),(1002,0)] 3000 hS (by simp) (by simp) ?_ ?_ ?_
     iterate 2 (case _=>(first | exact yU (ja5 @unI.eq_1 @unR.eq_1 @rdR.eq_1 @ZbZ @ZaW) | refine yR (ja5 @unI.eq_1 @unR.eq_1 @rdR.eq_1 @ZbZ @ZaW) ?_))
     cases r1 with
     | no e =>
      simp only [BR.bnd] at hr
      subst hr
      repeat (first | refine zR (ja8 @Zco.eq_1 @Zco.eq_2 @Zcp.eq_1 @Zcp.eq_2 @ZeY.eq_1 @ZeY.eq_2 @ZeZ.eq_1 (ja4 @ZeZ.eq_2 @hlast @hl2 @hbit)) ?_ | exact zU (ja8 @Zco.eq_1 @Zco.eq_2 @Zcp.eq_1 @Zcp.eq_2 @ZeY.eq_1 @ZeY.eq_2 @ZeZ.eq_1 (ja4 @ZeZ.eq_2 @hlast @hl2 @hbit)))
      simp only [KB];omega
     | ok o j =>
      simp only [BR.bnd,BT.run] at hr
      subst hr
      iterate 1 (first | refine zR (ja8 @Zco.eq_1 @Zco.eq_2 @Zcp.eq_1 @Zcp.eq_2 @unO.eq_1 @unR.eq_1 @rdR.eq_1 (ja2 @Zaa @ZbZ)) ?_ | exact zU (ja8 @Zco.eq_1 @Zco.eq_2 @Zcp.eq_1 @Zcp.eq_2 @unO.eq_1 @unR.eq_1 @rdR.eq_1 (ja2 @Zaa @ZbZ)))
      refine SWp.le (Zau (N:=56) (gc:=KB F) (l:=[(3,int 0),(4,int (h:Int))]) (h:=[(1000,0,.row false (unR true most ((31+(1000*F+1))) o.length)),(1001,0,.row false (rdR nl b j)),(1002,(31+(1000*F+1)),.row (nl0 o.length) (o.map u8))]) rfl ?_ ?_ ?_) ?_
      ·simp only [KB];omega
      iterate 2 (case _=>(first | exact yU (ja3 @unR.eq_1 @rdR.eq_1 @ZaW) | refine yR (ja3 @unR.eq_1 @rdR.eq_1 @ZaW) ?_))
      refine SWp.renew 1002 ((31+(1000*F+1))) (o:=.row (nl0 o.length) (o.map u8)) (by (first | exact yT | refine yS ?_)) ?_
      refine SWp.le (Zau (N:=56) (gc:=KB F+1) (l:=[(3,int 0),(4,int (h:Int))]) (h:=[(1000,0,.row false (unR true most (KB F) o.length)),(1001,0,.row false (rdR nl b j)),(1002,KB F,.row (nl0 o.length) (o.map u8))]) rfl ?_ ?_ ?_) ?_
      ·exact Nat.le_refl _
      iterate 2 (case _=>(first | exact yU (ja7 @Zbm @Zbn @unR.eq_1 @rdR.eq_1 @Zaa @ZbZ @ZaW) | refine yR (ja7 @Zbm @Zbn @unR.eq_1 @rdR.eq_1 @Zaa @ZbZ @ZaW) ?_))
      repeat (first | refine zR (ja8 @ZeY.eq_1 @ZeY.eq_2 @ZeZ.eq_1 @ZeZ.eq_2 @unO.eq_1 @unR.eq_1 @rdR.eq_1 (ja3 @hfx @hlast @hl2)) ?_ | exact zU (ja8 @ZeY.eq_1 @ZeY.eq_2 @ZeZ.eq_1 @ZeZ.eq_2 @unO.eq_1 @unR.eq_1 @rdR.eq_1 (ja3 @hfx @hlast @hl2)))
   ·rw [if_neg k1] at hr1
    have d1:decide ((p:Int)=1)=false:=decide_eq_false (by omega)
    rw [decide_eq_false k1,Bool.or_false] at hfx
    by_cases k2:p=2
    ·rw [if_pos k2] at hr1
     subst k2
     rw [Zav] at hr1
     have hTo:=ZoO ht t most nl b hb (i+3) c1 out _ rfl
     have hTi:=fun a j (q:Zye.run (Zah b) (i+3) = .ok a j)=>And.intro ((Zgc q).2 (by rw [Zad];exact c1)) (ZGh c1 q)
     have hTs:=fun e (q:Zye.run (Zah b) (i+3) = .no e)=>Zjy ZvN q
     obtain ⟨r2,hr2⟩:∃ r2,r2=Zye.run (Zah b) (i+3):=⟨_,rfl⟩
     rw [←hr2] at hTo hTi hTs hr1
     repeat (first | refine zR (ja6 @unR.eq_1 @rdR.eq_1 hp.symm @Nat.pow_one @d0 @d1) ?_ | exact zU (ja6 @unR.eq_1 @rdR.eq_1 hp.symm @Nat.pow_one @d0 @d1))
     refine Zag [(1000,0),(1001,0),(1002,0)] 3000 hTo (by simp) (by simp) ?_ ?_ ?_
     iterate 2 (case _=>(first | exact yU (ja4 @unI.eq_1 @unR.eq_1 @rdR.eq_1 @Zaa) | refine yR (ja4 @unI.eq_1 @unR.eq_1 @rdR.eq_1 @Zaa) ?_))
     cases r2 with
     | no e =>
      have he:=hTs e rfl
      have de:decide ((e:Int)=0)=false:=decide_eq_false (by omega)
      simp only [BR.bnd] at hr1
      subst hr1
      simp only [BR.bnd] at hr
      subst hr
      repeat (first | refine zR (ja8 @Zee.eq_1 @Zee.eq_2 @ZbC.eq_1 @ZbC.eq_2 @ZeY.eq_1 @ZeY.eq_2 @ZeZ.eq_1 (ja5 @ZeZ.eq_2 @hlast @hl2 @hbit @de)) ?_ | exact zU (ja8 @Zee.eq_1 @Zee.eq_2 @ZbC.eq_1 @ZbC.eq_2 @ZeY.eq_1 @ZeY.eq_2 @ZeZ.eq_1 (ja5 @ZeZ.eq_2 @hlast @hl2 @hbit @de)))
      simp only [KB];omega
     | ok q j2 =>
      obtain ⟨hj2,hl,hKl,hd,hKd⟩:=hTi q j2 rfl
      rw [Zad] at hj2
      simp only [BR.bnd] at hr1
      have hS:=ZlK t most hm nl b hb j2 hj2 out ho q.1 q.2 hl hKl hd hKd F (by omega) r1 hr1
      repeat (first | refine zR (ja8 @Zee.eq_1 @Zee.eq_2 @ZbC.eq_1 @ZbC.eq_2 @unO.eq_1 @unR.eq_1 @rdR.eq_1 (ja2 @Zaa @ZbZ)) ?_ | exact zU (ja8 @Zee.eq_1 @Zee.eq_2 @ZbC.eq_1 @ZbC.eq_2 @unO.eq_1 @unR.eq_1 @rdR.eq_1 (ja2 @Zaa @ZbZ)))
      refine Zag [(1000,0),(1001,0),(1002,0)] 4000 hS (by simp) (by simp) ?_ ?_ ?_
      iterate 2 (case _=>(first | exact yU (ja5 @unI.eq_1 @unR.eq_1 @rdR.eq_1 @Zaa @ZbZ) | refine yR (ja5 @unI.eq_1 @unR.eq_1 @rdR.eq_1 @Zaa @ZbZ) ?_))
      cases r1 with
      | no e =>
       simp only [BR.bnd] at hr
       subst hr
       repeat (first | refine zR (ja8 @Zco.eq_1 @Zco.eq_2 @Zcp.eq_1 @Zcp.eq_2 @ZeY.eq_1 @ZeY.eq_2 @ZeZ.eq_1 (ja4 @ZeZ.eq_2 @hlast @hl2 @hbit)) ?_ | exact zU (ja8 @Zco.eq_1 @Zco.eq_2 @Zcp.eq_1 @Zcp.eq_2 @ZeY.eq_1 @ZeY.eq_2 @ZeZ.eq_1 (ja4 @ZeZ.eq_2 @hlast @hl2 @hbit)))
       simp only [KB];omega
      | ok o j =>
       simp only [BR.bnd,BT.run] at hr
       subst hr
       iterate 1 (first | refine zR (ja8 @Zco.eq_1 @Zco.eq_2 @Zcp.eq_1 @Zcp.eq_2 @unO.eq_1 @unR.eq_1 @rdR.eq_1 (ja2 @Zaa @ZbZ)) ?_ | exact zU (ja8 @Zco.eq_1 @Zco.eq_2 @Zcp.eq_1 @Zcp.eq_2 @unO.eq_1 @unR.eq_1 @rdR.eq_1 (ja2 @Zaa @ZbZ)))
       refine SWp.le (Zau (N:=56) (gc:=KB F) (l:=[(3,int 0),(4,int (h:Int))]) (h:=[(1000,0,.row false (unR t most ((600031+(1000*F+1))) o.length)),(1001,0,.row false (rdR nl b j)),(1002,(600031+(1000*F+1)),.row (nl0 o.length) (o.map u8))]) rfl ?_ ?_ ?_) ?_
       ·simp only [KB];omega
       iterate 2 (case _=>(first | exact yU (ja3 @unR.eq_1 @rdR.eq_1 @ZaW) | refine yR (ja3 @unR.eq_1 @rdR.eq_1 @ZaW) ?_))
       refine SWp.renew 1002 ((600031+(1000*F+1))) (o:=.row (nl0 o.length) (o.map u8)) (by (first | exact yT | refine yS ?_)) ?_
       refine SWp.le (Zau (N:=56) (gc:=KB F+1) (l:=[(3,int 0),(4,int (h:Int))]) (h:=[(1000,0,.row false (unR t most (KB F) o.length)),(1001,0,.row false (rdR nl b j)),(1002,KB F,.row (nl0 o.length) (o.map u8))]) rfl ?_ ?_ ?_) ?_
       ·exact Nat.le_refl _
       iterate 2 (case _=>(first | exact yU (ja7 @Zbm @Zbn @unR.eq_1 @rdR.eq_1 @Zaa @ZbZ @ZaW) | refine yR (ja7 @Zbm @Zbn @unR.eq_1 @rdR.eq_1 @Zaa @ZbZ @ZaW) ?_))
       repeat (first | refine zR (ja8 @ZeY.eq_1 @ZeY.eq_2 @ZeZ.eq_1 @ZeZ.eq_2 @unO.eq_1 @unR.eq_1 @rdR.eq_1 (ja3 @hfx @hlast @hl2)) ?_ | exact zU (ja8 @ZeY.eq_1 @ZeY.eq_2 @ZeZ.eq_1 @ZeZ.eq_2 @unO.eq_1 @unR.eq_1 @rdR.eq_1 (ja3 @hfx @hlast @hl2)))
    ·rw [if_neg k2] at hr1
     simp only [BT.run] at hr1
     subst hr1
     simp only [BR.bnd] at hr
     subst hr
     have d2:decide ((p:Int)=2)=false:=decide_eq_false (by omega)
     repeat (first | refine zR (ja8 @unR.eq_1 @rdR.eq_1 hp.symm @Nat.pow_one @d0 @d1 @d2 (ja7 @ZeY.eq_1 @ZeY.eq_2 @ZeZ.eq_1 @ZeZ.eq_2 @hlast @hl2 @hbit)) ?_ | exact zU (ja8 @unR.eq_1 @rdR.eq_1 hp.symm @Nat.pow_one @d0 @d1 @d2 (ja7 @ZeY.eq_1 @ZeY.eq_2 @ZeZ.eq_1 @ZeZ.eq_2 @hlast @hl2 @hbit)))
     simp only [KB];omega
 ·rw [if_neg c1] at hr
  simp only [BR.bnd] at hr
  subst hr
  have hbit:ZGV b i=false:=by rw [ZGV,decide_eq_false c1,Bool.false_and]
  have hT:=ZdG nl b hb i hi 3 (decide_eq_false (by omega))
  repeat (first | refine zR (ja2 @unI.eq_1 @unR.eq_1) ?_ | exact zU (ja2 @unI.eq_1 @unR.eq_1))
  refine Zag [(1001,0)] 2000 hT (by simp) (by simp) ?_ ?_ ?_
  iterate 2 (case _=>(first | exact yU @rdR.eq_1 | refine yR @rdR.eq_1 ?_))
  repeat (first | refine zR (ja7 @unR.eq_1 @rdR.eq_1 @ZeY.eq_1 @ZeY.eq_2 @ZeZ.eq_1 @ZeZ.eq_2 @hbit) ?_ | exact zU (ja7 @unR.eq_1 @rdR.eq_1 @ZeY.eq_1 @ZeY.eq_2 @ZeZ.eq_1 @ZeZ.eq_2 @hbit))
  simp only [KB];omega
theorem ZAM {p q r:Nat × Nat} {hs:List (Nat × Nat)} {D c g:Nat} (h:g≠0):rho (p::q::r::hs) D c 1002 g=(r.1,c+g):=by simp [rho,Zbt,h]
theorem ZAN {b:List UInt8} {l d:List Nat} {most:Nat}:∀ {f:Nat} {out o:List UInt8} {i j:Nat},out.length≤most→(ZuJ l d most f out).run (Zah b) i = .ok o j→o.length≤most:=by
 intro f
 induction f with
 | zero=>intro out o i j _ h;simp [ZuJ,BT.run] at h
 | succ f ih =>
  intro out o i j ho h
  rw [ZuJ,Zav] at h
  cases h1:(ZyE l 15 0 0).run (Zah b) i with
  | no e=>rw [h1] at h;cases h
  | ok s k =>
   rw [h1] at h
   simp only [BR.bnd] at h
   by_cases c:s<256
   ·rw [if_pos c] at h
    by_cases c2:most≤out.length
    ·rw [if_pos c2] at h;simp [BT.run] at h
    ·rw [if_neg c2] at h
     exact ih (by rw [List.length_append,List.length_singleton];omega) h
   ·rw [if_neg c] at h
    by_cases c2:s=256
    ·rw [if_pos c2] at h
     simp only [BT.run,BR.ok.injEq] at h
     rw [←h.1];exact ho
    ·rw [if_neg c2,Zav] at h
     cases h2:(ZyF most d out (s-257)).run (Zah b) k with
     | no e=>rw [h2] at h;cases h
     | ok o2 k2 =>
      rw [h2] at h
      exact ih (ZAE h2) h
theorem ZDO {b:List UInt8} {n:Nat}:∀ {bs:List UInt8} {i j:Nat},(ZvH n).run (Zah b) i = .ok bs j→bs.length=n:=by
 induction n with
 | zero=>intro bs i j h;simp only [ZvH,BT.run,BR.ok.injEq] at h;rw [←h.1];rfl
 | succ n ih =>
  intro bs i j h
  rw [ZvH,Zav] at h
  cases h1:(ZkX 8).run (Zah b) i with
  | no e=>rw [h1] at h;cases h
  | ok x k =>
   rw [h1] at h
   simp only [BR.bnd,Zav] at h
   cases h2:(ZvH n).run (Zah b) k with
   | no e=>rw [h2] at h;cases h
   | ok r k2 =>
    have:=ih h2
    rw [h2] at h
    simp only [BR.bnd,BT.run,BR.ok.injEq] at h
    rw [←h.1,List.length_cons,this]
theorem ZGi {b:List UInt8} {most F h:Nat} {out o:List UInt8} {i j:Nat} (ho:out.length≤most) (q:(ZuK most F out h).run (Zah b) i = .ok o j):o.length≤most:=by
 unfold ZuK at q
 split at q
 ·simp only [ZAw,BT.run,Zav] at q
  cases h1:(ZkX ((i+7) / 8*8-i)).run (Zah b) i with
  | no e=>rw [h1] at q;cases q
  | ok s k =>
   rw [h1] at q
   simp only [BR.bnd,Zav] at q
   cases h2:(ZkX 16).run (Zah b) k with
   | no e=>rw [h2] at q;cases q
   | ok n k2 =>
    rw [h2] at q
    simp only [BR.bnd,Zav] at q
    cases h3:(ZkX 16).run (Zah b) k2 with
    | no e=>rw [h3] at q;cases q
    | ok m k3 =>
     rw [h3] at q
     simp only [BR.bnd] at q
     split at q
     ·simp [BT.run] at q
     ·rw [Zav] at q
      cases h4:(ZvH n).run (Zah b) k3 with
      | no e=>rw [h4] at q;cases q
      | ok bs k4 =>
       have hl:=ZDO h4
       rw [h4] at q
       simp only [BR.bnd] at q
       split at q
       ·simp [BT.run] at q
       ·simp only [BT.run,BR.ok.injEq] at q
        rw [←q.1,List.length_append];omega
 ·split at q
  ·exact ZAN ho q
  ·split at q
   ·rw [Zav] at q
    cases h1:Zye.run (Zah b) i with
    | no e=>rw [h1] at q;cases q
    | ok p k=>rw [h1] at q;exact ZAN ho q
   ·simp [BT.run] at q
theorem ZGj {b:List UInt8} {most F i j:Nat} {out:List UInt8} {p:Bool × List UInt8} (hi:i≤8*b.length) (ho:out.length≤most) (h:(ZvJ most F out).run (Zah b) i = .ok p j):i<j∧j≤8*b.length∧p.2.length≤most:=by
 have hj:=(Zgc h).2 (by rw [Zad];exact hi)
 rw [Zad] at hj
 rw [ZvJ,Zav,ZeH hi] at h
 split at h
 ·simp only [BR.bnd] at h
  rw [Zav] at h
  cases h1:(ZuK most F out (Zb6 b i 3 / 2)).run (Zah b) (i+3) with
  | no e=>rw [h1] at h;cases h
  | ok o k =>
   have h2:=(Zgc h1).1
   rw [h1] at h
   simp only [BR.bnd,BT.run,BR.ok.injEq] at h
   obtain ⟨rfl,rfl⟩:=h
   exact ⟨by omega,hj,ZGi ho h1⟩
 ·cases h
def ZEy (F:Nat) (b:List UInt8) (most:Int):List UInt8 × Nat × Nat:=if most<0∨16777216<most then ([],0,1) else ZyG F b most.toNat
def ZAO (r:List UInt8 × Nat × Nat):AV:=if r.2.2=0 then .tup [.sl (nl0 r.1.length) none (r.1.map u8),int (r.2.1:Int),int 0] else .tup [.sc (.slice none 0 0),int 0,int (r.2.2:Int)]
theorem ZAP {r:List UInt8 × Nat × Nat}:(ZAO r).free=true:=by
 unfold ZAO
 by_cases c:r.2.2=0
 ·rw [if_pos c];simp only [AV.free,AV.free.freeL,Zak,int,Bool.and_self]
 ·rw [if_neg c];rfl
set_option maxHeartbeats 2000000 in
set_option maxRecDepth 100000 in
theorem Zrl [Tabs Tryz.prog] (ht:Tabs.tab Tryz.prog 1=some (Zhz.map nA)) (nl:Bool) (b:List UInt8) (hb:b.length≤1000000) (hnl:nl=true→b=[]) (most:Int) (F:Nat) (hF:8*b.length<F) :
  Con Tryz.prog Zbk [.sl nl none (b.map u8),int most] (ZAO (ZEy F b most)):=by
 refine Con.of' mix Tryz.func10 rfl Tryz.ntmps10 Zhh Zhi (by simp) (by simp only [AV.free,AV.free.freeL,Zak,int,Bool.and_self]) ZAP ?_
 unfold ZeE
 by_cases c1:most<0
 ·have d1:=decide_eq_true c1
  rw [show ZAO (ZEy F b most) = .tup [.sc (.slice none 0 0),int 0,int 1] by rw [ZEy,if_pos (.inl c1)];rfl]
  repeat (first | refine zR @d1 ?_ | exact zU @d1)
 have d1:=decide_eq_false c1
 by_cases c2:16777216<most
 ·have d2:=decide_eq_true c2
  rw [show ZAO (ZEy F b most) = .tup [.sc (.slice none 0 0),int 0,int 1] by rw [ZEy,if_pos (.inr c2)];rfl]
  repeat (first | refine zR (ja2 @d1 @d2) ?_ | exact zU (ja2 @d1 @d2))
 have d2:=decide_eq_false c2
 rw [show ZEy F b most=ZyG F b most.toNat by rw [ZEy,if_neg (by omega)]]
 obtain ⟨m,hm⟩:∃ m:Nat,most=(m:Int):=⟨most.toNat,by omega⟩
 subst hm
 rw [Int.toNat_natCast]
 have hm:m≤16777216:=by omega
 obtain ⟨r,hr⟩:∃ r,(Zpk m F F []).run (Zah b) 0=r:=⟨_,rfl⟩
 have hse:=fun e (q:(Zpk m F F []).run (Zah b) 0 = .no e)=>Zjy (ZDI _ _) q
 rw [hr] at hse
 rw [ZyG,hr]
 repeat (first | refine zR (ja2 @d1 @d2) ?_ | exact zU (ja2 @d1 @d2))
 refine Zag [] 2000 (ZiD nl b hb hnl) (by simp) (by simp) ?_ ?_ ?_
 iterate 2 (case _=>(first | exact yT | refine yS ?_))
 iterate 1 (first | refine zR @rdR.eq_1 ?_ | exact zU @rdR.eq_1)
 refine SWp.adoptC 19 2 1 100 none (nl:=false) (cells:=[.op 2006 1 0,.sc (.slice none 0 0),int (m:Int),.sc (.pointer none)]) (by (first | exact yT | refine yS ?_)) rfl (by decide) ?_
 repeat (first | refine zR (ja2 @List.set_cons_zero.{0} @List.set_cons_succ.{0}) ?_ | exact zU (ja2 @List.set_cons_zero.{0} @List.set_cons_succ.{0}))
 refine SWp.loop (α:=Nat × List UInt8 × Nat × Bool × Nat × Nat × Bool) (fun x=>mk 54 x.2.2.2.2.2.1 [(7,.op 19 2 0),(8,boo x.2.2.2.2.2.2)] [(2006,1,.row false (rdR nl b x.2.2.1)),(19,2,.row false [.op 2006 1 0,.own 100 x.2.2.2.2.1 none 0 x.2.1.length,int (m:Int),fxA x.2.2.2.1]),(100,x.2.2.2.2.1,.row (nl0 x.2.1.length) (x.2.1.map u8))])
  (fun x=>(if x.2.2.2.2.2.2=true then BR.ok x.2.1 x.2.2.1 else (Zpk m F x.1 x.2.1).run (Zah b) x.2.2.1)=r∧x.2.2.1≤8*b.length∧8*b.length-x.2.2.1<x.1∧x.2.1.length≤m) (fun x=>x.1+(if x.2.2.2.2.2.2=true then 0 else 1)) (F,[],0,false,3,4,false) ⟨hr,Nat.zero_le _,by simp only;omega,Nat.zero_le _⟩ (Zau rfl ?_ ?_ ?_) ?_
 ·exact Nat.le_refl _
 iterate 2 (case _=>(first | exact yU (ja3 @rdR.eq_1 @ZeX @Zbw) | refine yR (ja3 @rdR.eq_1 @ZeX @Zbw) ?_))
 rintro ⟨f,o,i,t,g,c,last⟩ ⟨hx,hi,hf,ho⟩ -
 simp only at hx hi hf ho
 cases last with
 | true =>
  simp only [if_true] at hx
  subst hx
  obtain ⟨w,hw⟩:∃ w,w=i+7:=⟨_,rfl⟩
  have ew:(i:Int)+8-1=(w:Int):=by omega
  have hg:ZAO (o,(i+7) / 8,0) = .tup [.sl (nl0 o.length) none (o.map u8),int (((i+7) / 8:Nat):Int),int 0]:=rfl
  simp only [ZB9]
  rw [hg,←hw]
  repeat (first | refine zS ?_ | exact zT)
  refine Zag [(2006,1)] 3000 (ZsD nl b i) (by simp) (by simp) ?_ ?_ ?_
  iterate 2 (case _=>(first | exact yU @rdR.eq_1 | refine yR @rdR.eq_1 ?_))
  repeat (first | refine zR (ja2 @rdR.eq_1 @ew) ?_ | exact zU (ja2 @rdR.eq_1 @ew))
  all_goals trace_state
 | false =>
  rw [if_neg (by simp)] at hx
  obtain ⟨f,rfl⟩:∃ f',f=f'+1:=⟨f-1,by omega⟩
  rw [Zpk,Zav] at hx
  have hB:=ZuN ht t m hm nl b hb hnl i hi o ho F hF _ rfl
  have hBi:=fun p j (q:(ZvJ m F o).run (Zah b) i = .ok p j)=>ZGj hi ho q
  have hBs:=fun e (q:(ZvJ m F o).run (Zah b) i = .no e)=>Zjy ZvP q
  obtain ⟨r1,hr1⟩:∃ r1,r1=(ZvJ m F o).run (Zah b) i:=⟨_,rfl⟩
  rw [←hr1] at hB hBi hBs hx
  obtain ⟨t2,ht2⟩:∃ t2,t2=fxN t b i:=⟨_,rfl⟩
  obtain ⟨b2,hb2⟩:∃ b2,b2=ZGV b i:=⟨_,rfl⟩
  repeat (first | refine zS ?_ | exact zT)
  refine Zag [(19,2),(2006,1),(100,g)] 3000 hB (by simp) (by simp) ?_ ?_ ?_
  iterate 2 (case _=>(first | exact yU (ja4 @unI.eq_1 @unR.eq_1 @rdR.eq_1 @Zaa) | refine yR (ja4 @unI.eq_1 @unR.eq_1 @rdR.eq_1 @Zaa) ?_))
  cases r1 with
  | no e =>
   simp only [BR.bnd] at hx
   subst hx
   have he:=hBs e rfl
   have de:decide ((e:Int)=0)=false:=decide_eq_false (by omega)
   have hg:ZAO ([],0,e) = .tup [.sc (.slice none 0 0),int 0,int (e:Int)]:=by rw [ZAO,if_neg (by simp only;omega)]
   simp only [ZB9]
   rw [hg]
   repeat (first | refine zR (ja6 @ZeY.eq_1 @ZeY.eq_2 @ZeZ.eq_1 @ZeZ.eq_2 hb2.symm @de) ?_ | exact zU (ja6 @ZeY.eq_1 @ZeY.eq_2 @ZeZ.eq_1 @ZeZ.eq_2 hb2.symm @de))
   all_goals trace_state
  | ok p j =>
   obtain ⟨hij,hj,hp⟩:=hBi p j rfl
   have hKB:KB F≠0:=by simp only [KB];omega
   simp only [BR.bnd] at hx
   repeat (first | refine zR (ja8 @ZeY.eq_1 @ZeY.eq_2 @ZeZ.eq_1 @ZeZ.eq_2 @unO.eq_1 @unR.eq_1 @rdR.eq_1 (ja3 @Zaa ht2.symm @ZAM)) ?_ | exact zU (ja8 @ZeY.eq_1 @ZeY.eq_2 @ZeZ.eq_1 @ZeZ.eq_2 @unO.eq_1 @unR.eq_1 @rdR.eq_1 (ja3 @Zaa ht2.symm @ZAM)))
   refine At.of (f,p.2,j,t2,c+KB F,c+(KB F+1),p.1) ⟨?_,hj,by simp only;omega,hp⟩ ?_ rfl rfl (Nat.le_refl _) ?_ ?_
   ·simp only
    rw [←hx]
    cases h1:p.1 <;> simp [BT.run]
   ·simp only
    cases p.1 with
    | true=>show f+0<f+1+1;omega
    | false=>show f+1<f+1+1;omega
   iterate 2 (case _=>(first | exact yU @rdR.eq_1 | refine yR @rdR.eq_1 ?_))
theorem ZsS {R:List UInt8} {n i:Nat} (h:i<8*n) (hn:n≤R.length):(Zah (R.take n)).getD i 0=(Zah R).getD i 0:=by
 have e:Zah R=Zah (R.take n)++Zah (R.drop n):=by rw [←Zbj,List.take_append_drop]
 rw [e]
 simp only [List.getD]
 rw [List.getElem?_append_left (by rw [Zad,List.length_take,Nat.min_eq_left hn];exact h)]
theorem ZDP {most F:Nat} {R D:List UInt8} {j n:Nat} (h:(Zpk most F F []).run (Zah R) 0 = .ok D j) (hn:n≤R.length):(Zpk most F F []).run (Zah (R.take n)) 0=if j≤8*n then .ok D j else .no 2:=by
 have hl:(Zah (R.take n)).length=8*n:=by rw [Zad,List.length_take,Nat.min_eq_left hn]
 by_cases c:j≤8*n
 ·rw [if_pos c]
  exact Zre (by omega) (fun i hi=>ZsS (by omega) hn) h
 ·rw [if_neg c]
  exact ZoI (by omega) (fun i hi=>ZsS (by omega) hn) (Nat.zero_le _) h
set_option maxHeartbeats 1000000 in
set_option maxRecDepth 100000 in
theorem Zyh [Tabs Tryz.prog] (ht:Tabs.tab Tryz.prog 1=some (Zhz.map nA)) (b:List UInt8) (hl:b.length≤1000000) (i:Nat) (R:List UInt8) (hR:b.drop i=R) (hi:i≤b.length) (room:Nat) (hr:room≤16777216) (D:List UInt8) (j used:Nat) (hu:used=(j+7) / 8) (F:Nat) (hF:8000000<F)
  (hW:(Zpk room F F []).run (Zah R) 0 = .ok D j) :
  HCon Tryz.prog Zcy [.op 1000 0 0,int (room:Int)] [.row false (rdR false b i)] (.tup [.sl (nl0 D.length) none (D.map u8),int 0]) [(1000,0,.row false (rdR false b (i+used)))] 5:=by
 refine HCon.of' mix Tryz.func75 rfl Tryz.ntmps75 Zgy Zgz (by simp) (by simp [AV.gl,AV.gl.glL,int]) Zgj ?_
 unfold ZdW
 have hRl:R.length≤1000000:=by rw [←hR,List.length_drop];omega
 have htl:b.take b.length=b:=List.take_length
 have hju:=(Zgc hW).2 (Nat.zero_le _)
 rw [Zad] at hju
 have hu2:used≤1000000:=by omega
 have he:((i+used:Nat):Int)=(i:Int)+(used:Int):=by omega
 have inf:∀ S:List UInt8,S.length≤1000000→Con Tryz.prog Zbk [.sl false none (S.map u8),int (room:Int)] (ZAO (ZB9 ((Zpk room F F []).run (Zah S) 0))):=fun S hS=>by
  have h:=Zrl ht false S hS (fun h=>by cases h) (room:Int) F (by omega)
  rw [ZEy,if_neg (by omega),Int.toNat_natCast,ZyG] at h
  exact h
 have okA:ZAO (ZB9 (.ok D j)) = .tup [.sl (nl0 D.length) none (D.map u8),int (used:Int),int 0]:=by rw [hu];rfl
 have noA:ZAO (ZB9 (.no 2)) = .tup [.sc (.slice none 0 0),int 0,int 2]:=rfl
 repeat (first | refine zR (ja4 @rdR.eq_1 @List.length_map.{0,0} @htl hR) ?_ | exact zU (ja4 @rdR.eq_1 @List.length_map.{0,0} @htl hR))
 refine SWp.loop (α:=Nat) (fun k=>mk 55 1 [(0,.op 1000 0 0),(1,int (room:Int)),(6,.sl false none (R.map u8)),(7,int (k:Int))] [(1000,0,.row false (rdR false b i))])
  (fun k=>0<k∧k≤4000000) (fun k=>R.length-k) 4096 ⟨by omega,by omega⟩ (Zau rfl ?_ ?_ ?_) ?_
 ·exact Nat.le_refl _
 iterate 2 (case _=>(first | exact yU @rdR.eq_1 | refine yR @rdR.eq_1 ?_))
 rintro k ⟨hk0,hk⟩ -
 by_cases c:R.length≤k
 ·have hm:(if (R.length:Int)<(k:Int) then (R.length:Int) else (k:Int))=(R.length:Int):=by split <;> omega
  have htR:R.take R.length=R:=List.take_length
  have p:=inf R hRl
  rw [hW,okA] at p
  repeat (first | refine zR (ja4 @rdR.eq_1 @List.length_map.{0,0} @htR @hm) ?_ | exact zU (ja4 @rdR.eq_1 @List.length_map.{0,0} @htR @hm))
  refine Zay _ (.inl ⟨by simp only [AV.free,AV.free.freeL,Zak,int,Bool.and_self],p⟩) ?_
  repeat (first | refine zR (ja3 @rdR.eq_1 @List.length_map.{0,0} @he) ?_ | exact zU (ja3 @rdR.eq_1 @List.length_map.{0,0} @he))
 ·have hm:(if (R.length:Int)<(k:Int) then (R.length:Int) else (k:Int))=(k:Int):=by split <;> omega
  have p:=inf (R.take k) (by rw [List.length_take];omega)
  rw [ZDP hW (by omega)] at p
  have hSl:(R.take k).length=k:=by rw [List.length_take];omega
  have dl:decide ((k:Int)<(R.length:Int))=true:=decide_eq_true (by omega)
  obtain ⟨S,hS⟩:∃ S,S=R.take k:=⟨_,rfl⟩
  rw [←hS] at p hSl
  by_cases cj:j≤8*k
  ·rw [if_pos cj,okA] at p
   repeat (first | refine zR (ja4 @rdR.eq_1 @List.length_map.{0,0} @hm hS.symm) ?_ | exact zU (ja4 @rdR.eq_1 @List.length_map.{0,0} @hm hS.symm))
   refine Zay _ (.inl ⟨by simp only [AV.free,AV.free.freeL,Zak,int,Bool.and_self],p⟩) ?_
   repeat (first | refine zR (ja3 @rdR.eq_1 @List.length_map.{0,0} @he) ?_ | exact zU (ja3 @rdR.eq_1 @List.length_map.{0,0} @he))
  ·rw [if_neg cj,noA] at p
   repeat (first | refine zR (ja4 @rdR.eq_1 @List.length_map.{0,0} @hm hS.symm) ?_ | exact zU (ja4 @rdR.eq_1 @List.length_map.{0,0} @hm hS.symm))
   refine Zay _ (.inl ⟨by simp only [AV.free,AV.free.freeL,Zak,int,Bool.and_self],p⟩) ?_
   repeat (first | refine zR (ja4 @rdR.eq_1 @List.length_map.{0,0} @hSl @dl) ?_ | exact zU (ja4 @rdR.eq_1 @List.length_map.{0,0} @hSl @dl))
   refine At.of (4*k) ⟨by omega,by omega⟩ (by omega) rfl rfl (Nat.le_refl _) ?_ ?_
   ·(first | exact yT | refine yS ?_)
    omega
   ·(first | exact yU @rdR.eq_1 | refine yR @rdR.eq_1 ?_)
set_option maxHeartbeats 1000000 in
set_option maxRecDepth 100000 in
theorem Zrm [Tabs Tryz.prog] (nm:List UInt8) (hn:nm.length≤200) (hz:Lib.indexByte nm 0<0) (mt:Nat) (hm:mt<4294967296) (R b:List UInt8) (hb:b=hdB nm mt++R) (hl:b.length≤1000000) (h4:R.length≤4096) (room:Nat) (hr:room≤16777216) (nd:Bool) (D:List UInt8) (hD:D.length≤1000000) (used:Nat)
  (hI:Con Tryz.prog Zbk [.sl false none (R.map u8),int (room:Int)] (.tup [.sl nd none (D.map u8),int (used:Int),int 0])) (hu:used+8=R.length) (hok:(R.drop used).take 8=tlB D) :
  Con Tryz.prog ZdP [.sl false none (b.map u8),int (room:Int)] (.tup [.sl false (some 3) [.agg [str nm,int (mt:Int),.sl nd none (D.map u8)]],.agg [str [],int 0,int 0]]):=by
 refine Con.of' mix Tryz.func16 rfl Tryz.ntmps16 ZhT ZhU (by simp) (by simp only [AV.free,AV.free.freeL,Zak,int,Bool.and_self]) (by simp only [AV.free,AV.free.freeL,Zak,int,str,Bool.and_self]) ?_
 unfold Zfq
 have p1:=ZuB false nm hn hz mt hm R b hb hl h4 room nd D hD used hI (by omega) true (decide_eq_true hok).symm
 have hq:(hdB nm mt).length+used+8=b.length:=by rw [hb,List.length_append];omega
 rw [hq] at p1
 have hbl:10≤b.length:=by have:=ZoG (nm:=nm) (mt:=mt);omega
 have d1:decide ((room:Int)<0)=false:=decide_eq_false (by omega)
 have d2:decide ((16777216:Int)<(room:Int))=false:=decide_eq_false (by omega)
 have d3:decide ((b.length:Int)=0)=false:=decide_eq_false (by omega)
 have d4:decide ((b.length:Int)<(b.length:Int))=false:=decide_eq_false (by omega)
 have htl:b.take b.length=b:=List.take_length
 clear hb
 repeat (first | refine zR (ja2 @d1 @d2) ?_ | exact zU (ja2 @d1 @d2))
 refine SWp.unroll ?_
 repeat (first | refine zR (ja3 @List.length_map.{0,0} @htl @List.drop_zero.{0}) ?_ | exact zU (ja3 @List.length_map.{0,0} @htl @List.drop_zero.{0}))
 refine Zag [(30,1)] 2000 p1 (by simp) (by simp) ?_ ?_ ?_
 iterate 2 (case _=>(first | exact yU @rdR.eq_1 | refine yR @rdR.eq_1 ?_))
 repeat (first | refine zR (ja5 @rdR.eq_1 @ZvB.eq_1 @d3 @d4 @List.length_map.{0,0}) ?_ | exact zU (ja5 @rdR.eq_1 @ZvB.eq_1 @d3 @d4 @List.length_map.{0,0}))
 refine ⟨⟨_,rfl,rfl⟩,fun y hy=>⟨_,List.mem_singleton.1 hy⟩,?_⟩
 repeat (first | refine zR (ja5 @rdR.eq_1 @ZvB.eq_1 @d3 @d4 @List.length_map.{0,0}) ?_ | exact zU (ja5 @rdR.eq_1 @ZvB.eq_1 @d3 @d4 @List.length_map.{0,0}))
 rfl
abbrev Mb:=List UInt8 × Nat × List UInt8 × List UInt8
def mbB (m:Mb):List UInt8:=hdB m.1 m.2.1++(m.2.2.2++tlB m.2.2.1)
def ZnG (l:List Mb):List UInt8:=l.flatMap mbB
def mbV (m:Mb):AV:=.agg [str m.1,int (m.2.1:Int),.sl (nl0 m.2.2.1.length) none (m.2.2.1.map u8)]
def mbC (l:List Mb):List AV:=l.flatMap fun m=>[str m.1,int (m.2.1:Int),.sl (nl0 m.2.2.1.length) none (m.2.2.1.map u8)]
def szB (l:List Mb):Nat:=(l.map fun m=>m.2.2.1.length).sum
def okM (m:Mb):Prop:=m.1.length≤200∧Lib.indexByte m.1 0<0∧m.2.1<4294967296∧m.2.2.1.length≤1000000 ∧
 ∀ (most:Nat) (R:List UInt8),m.2.2.1.length≤most→∃ j,(Zpk most 9000000 9000000 []).run (Zah (m.2.2.2++R)) 0 = .ok m.2.2.1 j∧(j+7) / 8=m.2.2.2.length
theorem Zrn {l:List Mb}:AV.free.freeL (l.map mbV)=true:=Zba.2 fun x hx=>by
 obtain ⟨m,_,rfl⟩:=List.mem_map.1 hx
 simp only [mbV,AV.free,AV.free.freeL,str,int,Zak,Bool.and_self]
theorem Zqg {l:List Mb}:(mbC l).length=l.length*3:=by
 induction l with
 | nil=>rfl
 | cons m l ih=>simp only [mbC,List.flatMap_cons,List.length_append,List.length_cons,List.length_nil] at ih ⊢;omega
theorem Zqh:∀ {l:List Mb} {n:Nat},n=l.length→chunks (some 3) n (mbC l)=l.map mbV
 | [],_,rfl=>rfl
 | m::l,_,rfl=>by
  simp only [mbC,List.flatMap_cons,List.length_cons,chunks,List.map_cons]
  have:=Zqh (l:=l) rfl
  simp only [mbC] at this
  rw [←this];rfl
theorem ZDQ {l:List Mb} {m:Mb}:mbC (l++[m])=mbC l++[str m.1,int (m.2.1:Int),.sl (nl0 m.2.2.1.length) none (m.2.2.1.map u8)]:=by simp [mbC]
theorem ZoP {m:Mb}:18≤(mbB m).length∧(mbB m).length=(hdB m.1 m.2.1).length+m.2.2.2.length+8:=by
 have:=ZoG (nm:=m.1) (mt:=m.2.1)
 have ht:(tlB m.2.2.1).length=8:=by rw [tlB,List.length_append,ZaS,ZaS]
 rw [mbB,List.length_append,List.length_append,ht];omega
theorem ZoQ {l:List Mb} {k:Nat} (hk:k<l.length):ZnG l=ZnG (l.take k)++(mbB l[k]++ZnG (l.drop (k+1))):=by
 conv=>lhs;rw [←List.take_append_drop k l,List.drop_eq_getElem_cons hk]
 simp only [ZnG,List.flatMap_append,List.flatMap_cons]
theorem ZuO {l m:List Mb}:szB (l++m)=szB l+szB m:=by simp [szB]
theorem ZAQ {l m:List Mb}:ZnG (l++m)=ZnG l++ZnG m:=List.flatMap_append
theorem ZAR {m:Mb}:szB [m]=m.2.2.1.length:=by simp [szB]
theorem ZAS {m:Mb}:ZnG [m]=mbB m:=by simp [ZnG]
set_option maxHeartbeats 2000000 in
set_option maxRecDepth 100000 in
theorem Zro [Tabs Tryz.prog] (ht:Tabs.tab Tryz.prog 1=some (Zhz.map nA)) (l:List Mb) (hne:l≠[]) (hok:∀ m∈l,okM m) (hlen:(ZnG l).length≤1000000) (hl:l.length≤1000) (room:Nat) (hr:room≤16777216) (hs:szB l≤room) :
  Con Tryz.prog ZdP [.sl false none ((ZnG l).map u8),int (room:Int)] (.tup [.sl false (some 3) (l.map mbV),.agg [str [],int 0,int 0]]):=by
 refine Con.of' mix Tryz.func16 rfl Tryz.ntmps16 ZhT ZhU (by simp) (by simp only [AV.free,AV.free.freeL,Zak,int,Bool.and_self]) (by simp only [AV.free,AV.free.freeL,Zrn,str,int,Bool.and_self]) ?_
 unfold Zfq
 have d1:decide ((room:Int)<0)=false:=decide_eq_false (by omega)
 have d2:decide ((16777216:Int)<(room:Int))=false:=decide_eq_false (by omega)
 obtain ⟨B,hB⟩:∃ B,B=ZnG l:=⟨_,rfl⟩
 rw [←hB] at hlen ⊢
 have htl:B.take B.length=B:=List.take_length
 have hn0:0<l.length:=by cases l with | nil=>exact absurd rfl hne | cons _ _=>simp
 repeat (first | refine zR (ja2 @d1 @d2) ?_ | exact zU (ja2 @d1 @d2))
 refine SWp.adopt 6 (some 3) (by (first | exact yT | refine yS ?_)) ?_
 refine SWp.loop (α:=Nat) (fun k=>mk 59 (43*k+2) [(0,.sl false none (B.map u8)),(1,int ((room-szB (l.take k):Nat):Int)),(4,.sc (.slice none 0 0)),(5,.op 5 0 0),(6,.own 6 (43*k+1) (some 3) 0 k),(7,int ((ZnG (l.take k)).length:Int))] [(5,0,.row false [str [],int 0,int 0]),(6,43*k+1,.row (nl0 k) (mbC (l.take k)))])
  (fun k=>k≤l.length) (fun k=>l.length-k) 0 (Nat.zero_le _) (Zau rfl ?_ ?_ ?_) ?_
 ·exact Nat.le_refl _
 iterate 2 (case _=>(first | exact yU (ja8 @List.take_zero.{0} @szB.eq_1 @List.sum_nil.{0} @ZnG.eq_1 @List.flatMap_nil.{0,0} @List.length_nil.{0} @mbC.eq_1 @Zbw) | refine yR (ja8 @List.take_zero.{0} @szB.eq_1 @List.sum_nil.{0} @ZnG.eq_1 @List.flatMap_nil.{0,0} @List.length_nil.{0} @mbC.eq_1 @Zbw) ?_))
 rintro k hk -
 by_cases hkn:k<l.length
 ·have hm:=hok l[k] (List.getElem_mem hkn)
  have hsp:=ZoQ hkn
  rw [←hB] at hsp
  have htk:l.take (k+1)=l.take k++[l[k]]:=by rw [List.take_succ_eq_append_getElem hkn]
  have hsz:szB (l.take (k+1))=szB (l.take k)+l[k].2.2.1.length:=by rw [htk,ZuO,ZAR]
  have hszl:szB (l.take (k+1))≤szB l:=by
   have h:=ZuO (l:=l.take (k+1)) (m:=l.drop (k+1))
   rw [List.take_append_drop] at h
   omega
  have hcl:(ZnG (l.take (k+1))).length=(ZnG (l.take k)).length+(mbB l[k]).length:=by rw [htk,ZAQ,ZAS,List.length_append]
  have hmc:mbC (l.take (k+1))=mbC (l.take k)++[str l[k].1,int (l[k].2.1:Int),.sl (nl0 l[k].2.2.1.length) none (l[k].2.2.1.map u8)]:=by rw [htk,ZDQ]
  have hml:(mbC (l.take k)).length=k*3:=by rw [Zqg,List.length_take,Nat.min_eq_left (by omega)]
  obtain ⟨m,hmm⟩:∃ m,m=l[k]:=⟨_,rfl⟩
  rw [←hmm] at hm hsp hsz hcl hmc
  obtain ⟨nm,mt,D,K⟩:=m
  obtain ⟨m1,m2,m3,m4,m5⟩:=hm
  simp only at m1 m2 m3 m4 m5 hsz hmc
  have hbl:=ZoP (m:=(nm,mt,D,K))
  simp only at hbl
  obtain ⟨Z,hZ⟩:∃ Z,Z=ZnG (l.drop (k+1)):=⟨_,rfl⟩
  rw [←hZ] at hsp
  obtain ⟨a,ha⟩:∃ a,a=(ZnG (l.take k)).length:=⟨_,rfl⟩
  obtain ⟨S,hS⟩:∃ S,S=hdB nm mt++(K++tlB D++Z):=⟨_,rfl⟩
  have hSB:B.drop a=S:=by
   rw [hsp,ha,List.drop_left,hS,mbB]
   simp only [List.append_assoc]
  have hSl:S.length≤1000000:=by rw [←hSB,List.length_drop];omega
  have hSl2:S.length=(hdB nm mt).length+(K.length+8+Z.length):=by rw [hS];simp only [List.length_append,tlB,ZaS]
  have hBa:B.length=a+S.length:=by rw [hsp,ha,hSl2,List.length_append,List.length_append];omega
  obtain ⟨j,hj,hjK⟩:=m5 (room-szB (l.take k)) (tlB D++Z) (by omega)
  have hdr:S.drop (hdB nm mt).length=K++(tlB D++Z):=by rw [hS,List.drop_left,List.append_assoc]
  have p3:=Zyh ht S hSl (hdB nm mt).length _ hdr (by omega) (room-szB (l.take k)) (by omega) D j K.length hjK.symm 9000000 (by omega) hj
  have p1:=ZoH false nm m1 m2 mt m3 (K++tlB D++Z) S hS hSl ((room-szB (l.take k):Nat):Int) (nl0 D.length) D m4 K.length p3 (by simp only [List.length_append,tlB,ZaS];omega) true (by
   rw [List.append_assoc,List.drop_left,List.take_append_of_le_length (by simp only [List.length_append,tlB,ZaS];omega),List.take_of_length_le (by simp only [List.length_append,tlB,ZaS];omega)]
   exact (decide_eq_true rfl).symm)
  have hpl:(hdB nm mt).length+K.length+8=(mbB (nm,mt,D,K)).length:=hbl.2.symm
  rw [hpl] at p1
  rw [←ha] at hcl
  obtain ⟨w,hw⟩:∃ w,w=(mbB (nm,mt,D,K)).length:=⟨_,rfl⟩
  rw [←hw] at p1 hcl hbl
  have e1:((ZnG (l.take (k+1))).length:Int)=(a:Int)+(w:Int):=by omega
  obtain ⟨u,hu⟩:∃ u,u=room-szB (l.take k):=⟨_,rfl⟩
  rw [←hu] at p1
  have e2:((room-szB (l.take (k+1)):Nat):Int)=(u:Int)-(D.length:Int):=by omega
  have e3:nl0 (k+1)=false:=rfl
  have dL:decide ((a:Int)<(B.length:Int))=true:=decide_eq_true (by omega)
  have h0:(k=0∧decide ((a:Int)=0)=true)∨decide ((a:Int)=0)=false:=by
   rcases Nat.eq_zero_or_pos k with h | h
   ·left;subst h;exact ⟨rfl,decide_eq_true (by rw [ha];rfl)⟩
   ·right
    refine decide_eq_false ?_
    have:=ZoP (m:=l[0])
    have h1:=ZoQ (l:=l.take k) (k:=0) (by rw [List.length_take];omega)
    have h2:=congrArg List.length h1
    rw [List.length_append,List.length_append,List.getElem_take] at h2
    omega
  have hw2:a+w≤1000000:=by omega
  clear hsp hS hZ hj hok hlen
  rcases h0 with ⟨-,d0⟩ | d0
  all_goals
   repeat (first | refine zR (ja7 @d0 @dL ha.symm hu.symm @List.length_map.{0,0} @htl @hSB) ?_ | exact zU (ja7 @d0 @dL ha.symm hu.symm @List.length_map.{0,0} @htl @hSB))
   refine Zag [(30,43*k+2)] 2000 p1 (by simp) (by simp) ?_ ?_ ?_
   iterate 2 (case _=>(first | exact yU @rdR.eq_1 | refine yR @rdR.eq_1 ?_))
   repeat (first | refine zR (ja3 @rdR.eq_1 @ZvB.eq_1 @List.length_map.{0,0}) ?_ | exact zU (ja3 @rdR.eq_1 @ZvB.eq_1 @List.length_map.{0,0}))
   refine ⟨⟨_,rfl,rfl⟩,⟨fun y hy=>⟨_,List.mem_singleton.1 hy⟩,hml.symm,by omega,by omega⟩,?_⟩
   repeat (first | refine zR (ja3 @rdR.eq_1 @ZvB.eq_1 @List.length_map.{0,0}) ?_ | exact zU (ja3 @rdR.eq_1 @ZvB.eq_1 @List.length_map.{0,0}))
   refine At.of (k+1) (by omega) (by omega) rfl rfl (Nat.le_refl _) ?_ ?_
   ·(first | exact yU (ja2 @e1 @e2) | refine yR (ja2 @e1 @e2) ?_)
    omega
   ·(first | exact yU (ja2 @hmc @e3) | refine yR (ja2 @hmc @e3) ?_)
    exact ⟨by omega,rfl⟩
 ·obtain rfl:k=l.length:=by omega
  have htk:l.take l.length=l:=List.take_length
  have d0:decide (((ZnG l).length:Int)=0)=false:=decide_eq_false (by
   have h2:=congrArg List.length (ZoQ hn0)
   have:=ZoP (m:=l[0])
   rw [List.length_append,List.length_append] at h2
   omega)
  have dL:decide (((ZnG l).length:Int)<(B.length:Int))=false:=decide_eq_false (by rw [hB];omega)
  have hc:=Zqh (l:=l) rfl
  have hml:=Zqg (l:=l)
  have hnl:=Zcg hn0
  repeat (first | refine zR (ja7 @htk @d0 @dL @List.length_map.{0,0} @hc @hml @hnl) ?_ | exact zU (ja7 @htk @d0 @dL @List.length_map.{0,0} @hc @hml @hnl))
def mbA (nm:ByteArray) (mt:Int) (nl:Bool) (b:List UInt8):AV:=.agg [.sc (.string nm),int mt,.sl nl none (b.map u8)]
set_option maxHeartbeats 1000000 in
set_option maxRecDepth 100000 in
theorem ZAT [Tabs Tryz.prog] (nm:ByteArray) (hn:nm.data.toList.length≤200) (hz:Lib.indexByte nm.data.toList 0<0) (mt:Nat) (hm:mt<4294967296) (nl:Bool) (b:List UInt8) (hb:b.length≤1000000) (how:Int) (K:List UInt8) (hK:K.length≤1000000)
  (hD:Con Tryz.prog Za5 [.sl nl none (b.map u8),int how] (.tup [.sl false none (K.map u8),int 0])) (n:Nat) (hnn:n=(hdB nm.data.toList mt++(K++tlB b)).length) :
  HCon Tryz.prog ZfR [mbA nm mt nl b,int how] [] (.tup [.own 4022 8 none 0 n,int 0]) [(4022,8,.row false ((hdB nm.data.toList mt++(K++tlB b)).map u8))] 20:=by
 refine HCon.of' mix Tryz.func13 rfl Tryz.ntmps13 Zoy Zoz (by simp) (by simp only [mbA,AV.gl,AV.gl.glL,int,and_true,true_and];exact Zae _ _ Zak) (by simp) ?_
 unfold Zkr
 have hf:AV.free.freeL (b.map u8)=true:=Zak
 have p1:=Zga nm 0
 have p2:=ZsC nl b hb
 have p3:=ZAh nm hn mt hm nl b
 obtain ⟨H,hH⟩:∃ H,H=hdB nm.data.toList mt:=⟨_,rfl⟩
 obtain ⟨T,hT⟩:∃ T,T=tlB b:=⟨_,rfl⟩
 have hTl:T.length=8:=by rw [hT,tlB,List.length_append,ZaS,ZaS]
 have hHl:=ZoG (nm:=nm.data.toList) (mt:=mt)
 rw [←hH] at p3 hnn hHl ⊢
 rw [←hT] at p2 hnn ⊢
 simp only [List.length_append] at hnn
 have p4:=ZnE false false false H K T n (by omega) (by omega) (by omega)
 have d1:decide ((mt:Int)<0)=false:=decide_eq_false (by omega)
 have d2:decide ((4294967295:Int)<(mt:Int))=false:=decide_eq_false (by omega)
 have d3:decide ((200:Int)<(nm.data.toList.length:Int))=false:=decide_eq_false (by omega)
 have d4:decide ((0:Int)≤Lib.indexByte nm.data.toList 0)=false:=decide_eq_false (by omega)
 have t8:(T.map u8).take 8=T.map u8:=List.take_of_length_le (by simp;omega)
 repeat (first | refine zR (ja4 @mbA.eq_1 @d1 @d2 @d3) ?_ | exact zU (ja4 @mbA.eq_1 @d1 @d2 @d3))
 refine Zay _ (.inl ⟨rfl,p1⟩) ?_
 repeat (first | refine zR @d4 ?_ | exact zU @d4)
 refine Zay _ (.inl ⟨by simp only [AV.free,AV.free.freeL,int,Zak,Bool.and_self],hD⟩) ?_
 repeat (first | refine zS ?_ | exact zT)
 refine Zay _ (.inl ⟨by simp only [AV.free,AV.free.freeL,Zak,Bool.and_self],p2⟩) ?_
 iterate 1 (first | refine zR @hTl ?_ | exact zU @hTl)
 refine SWp.le (Zau (N:=46) (gc:=3) (l:=[(2,.op 2 1 0),(6,.sl false none (K.map u8)),(8,.op 8 2 0)]) (h:=[(2,1,.row false [.sc (.string nm),int mt,.sl nl none (b.map u8)]),(8,2,.row false (T.map u8))]) rfl ?_ ?_ ?_) ?_
 ·exact Nat.le_refl _
 iterate 2 (case _=>(first | exact yU @hTl | refine yR @hTl ?_))
 refine SWp.frzo 8 2 (nl:=false) (cells:=T.map u8) (by (first | exact yT | refine yS ?_)) Zak ?_
 refine SWp.le (Zau (N:=46) (gc:=3) (l:=[(2,.op 2 1 0),(6,.sl false none (K.map u8)),(8,.fp (.agg (T.map u8)) 0)]) (h:=[(2,1,.row false [.sc (.string nm),int mt,.sl nl none (b.map u8)])]) rfl ?_ ?_ ?_) ?_
 ·exact Nat.le_refl _
 iterate 2 (case _=>(first | exact yU (ja2 fR @hTl) | refine yR (ja2 fR @hTl) ?_))
 repeat (first | refine zS ?_ | exact zT)
 refine Zay _ (.inl ⟨by simp only [AV.free,AV.free.freeL,Zak,Bool.and_self],p3⟩) ?_
 repeat (first | refine zR (ja2 @t8 @hTl) ?_ | exact zU (ja2 @t8 @hTl))
 refine Zag [] 3000 p4 (by simp) (by simp) ?_ ?_ ?_
 iterate 2 (case _=>(first | exact yT | refine yS ?_))
 repeat (first | refine zS ?_ | exact zT)
set_option maxRecDepth 100000 in
theorem ZoR [Tabs Tryz.prog] (x:Int):Con Tryz.prog ZgT [int x] (boo false):=by
 refine Con.of' mix Tryz.func162 rfl Tryz.ntmps162 Zpy Zpz (by simp) rfl rfl ?_
 unfold Zkg
 have d1:decide (x≠x)=false:=by simp
 repeat (first | refine zR @d1 ?_ | exact zU @d1)
def Zl1 (a b:Int):Int:=if a<b then -1 else if b<a then 1 else 0
set_option maxRecDepth 100000 in
theorem Zrp [Tabs Tryz.prog] (x y:Int):Con Tryz.prog Zio [int x,int y] (int (Zl1 x y)):=by
 refine Con.of' mix Tryz.func158 rfl Tryz.ntmps158 ZnB ZnC (by simp) rfl rfl ?_
 unfold ZiC
 repeat (first | refine zS ?_ | exact zT)
 refine Zay _ (.inl ⟨rfl,ZoR x⟩) ?_
 repeat (first | refine zS ?_ | exact zT)
 refine Zay _ (.inl ⟨rfl,ZoR y⟩) ?_
 repeat (first | refine zS ?_ | exact zT)
 refine SWp.cond rfl (fun h=>?_) (fun h=>?_)
 ·simp only [decide_eq_true_eq] at h
  have e:Zl1 x y=-1:=by unfold Zl1;rw [if_pos h]
  repeat (first | refine zR @e ?_ | exact zU @e)
 ·simp only [decide_eq_false_iff_not] at h
  repeat (first | refine zS ?_ | exact zT)
  refine SWp.cond rfl (fun h'=>?_) (fun h'=>?_)
  ·simp only [decide_eq_true_eq] at h'
   have e:Zl1 x y=1:=by unfold Zl1;rw [if_neg h,if_pos h']
   repeat (first | refine zR @e ?_ | exact zU @e)
  ·simp only [decide_eq_false_iff_not] at h'
   have e:Zl1 x y=0:=by unfold Zl1;rw [if_neg h,if_neg h']
   repeat (first | refine zR @e ?_ | exact zU @e)
set_option maxRecDepth 100000 in
theorem Zdg [Tabs Tryz.prog] (x y:Int) (s t:AV) (hs:s.free=true) (ht:t.free=true):Con Tryz.prog Zbp [.agg [int x,s],.agg [int y,t]] (int (Zl1 x y)):=by
 refine Con.of' mix Tryz.func154 rfl Tryz.ntmps154 Zpw Zpx (by simp) (by simp only [AV.free,AV.free.freeL,int,hs,ht,Bool.and_self]) rfl ?_
 unfold Zkf
 repeat (first | refine zR (ja6 @Zaq.eq_1 @Zaq.eq_2 @Zaq.eq_3 @Zaq.eq_4 @Zaq.eq_5 @Zaq.eq_6) ?_ | exact zU (ja6 @Zaq.eq_1 @Zaq.eq_2 @Zaq.eq_3 @Zaq.eq_4 @Zaq.eq_5 @Zaq.eq_6))
 refine Zay _ (.inl ⟨rfl,Zrp x y⟩) ?_
 repeat (first | refine zS ?_ | exact zT)
set_option maxRecDepth 100000 in
theorem Zkh [Tabs Tryz.prog] (n1 n2:Bool) (xs ys:List AV) (hx:AV.free.freeL xs=true) (hy:AV.free.freeL ys=true) (hl:xs.length≤100000) (hm:ys.length≤100000) (h0:0<xs.length+ys.length) :
  Con Tryz.prog Za6 [.sl false none [.sl n1 none xs,.sl n2 none ys]] (.sl false none (xs++ys)):=by
 refine Con.of' mix Tryz.func87 rfl Tryz.ntmps87 ZeR ZeS (by simp) (by simp only [AV.free,AV.free.freeL,hx,hy,Bool.and_self]) (by simp only [AV.free];exact Zba.2 fun x hx'=>(List.mem_append.1 hx').elim (Zba.1 hx x) (Zba.1 hy x)) ?_
 unfold ZcL
 obtain ⟨n,hn⟩:∃ n,n=xs.length+ys.length:=⟨_,rfl⟩
 have hc:(xs.length:Int)+(ys.length:Int)=(n:Int):=by omega
 have d1:decide ((xs.length:Int)<0)=false:=decide_eq_false (by omega)
 have d2:decide ((n:Int)<0)=false:=decide_eq_false (by omega)
 repeat (first | refine zR (ja3 @d1 @hc @d2) ?_ | exact zU (ja3 @d1 @hc @d2))
 refine SWp.unroll ?_
 repeat (first | refine zR (ja3 @d1 @hc @d2) ?_ | exact zU (ja3 @d1 @hc @d2))
 refine Zag [] 1000 (Zna n (by omega) (by omega)) (by simp) (by simp) ?_ ?_ ?_
 iterate 2 (case _=>(first | exact yT | refine yS ?_))
 repeat (first | refine zS ?_ | exact zT)
 have e1:xs.length≤70368744177664:=by omega
 refine SWp.unroll ?_
 repeat (first | refine zR @List.length_append.{0} ?_ | exact zU @List.length_append.{0})
 exact List.take_of_length_le (by simp)
set_option maxRecDepth 100000 in
theorem ZsT [Tabs Tryz.prog] (n:Nat) (h0:0<n) (hn:n≤1000000):HCon Tryz.prog ZbU [.sc (.slice none 0 0),int n] [] (.own 22 1 (some 2) 0 0) [(22,1,.row false [])] 2:=by
 refine HCon.of' mix Tryz.func159 rfl Tryz.ntmps159 Zd7 Zd8 (by simp) (by simp [AV.gl,AV.gl.glL,int]) (by simp) ?_
 unfold ZbV
 have d1:decide ((n:Int)<0)=false:=decide_eq_false (by omega)
 have d2:decide ((n:Int)>0)=true:=decide_eq_true (by omega)
 have d3:(n==0)=false:=by simp;omega
 iterate 16 (first | refine zR (ja3 @d1 @d2 @d3) ?_ | exact zU (ja3 @d1 @d2 @d3))
 refine SWp.cut 22 0 (g:=1) (nl:=false) (cells:=(List.replicate n [AV.sc (.int .i64 0),AV.sc (.slice none 0 0)]).flatten) (by (first | exact yT | refine yS ?_)) ?_
 repeat (first | refine zS ?_ | exact zT)
def bA (p:Nat × List Nat):AV:=.agg [nA p.1,.sl false none (p.2.map nA)]
def bC (l:List (Nat × List Nat)):List AV:=l.flatMap fun p=>[nA p.1,.sl false none (p.2.map nA)]
theorem Zji {l:List (Nat × List Nat)}:AV.free.freeL (l.map bA)=true:=Zba.2 fun x hx=>by
 obtain ⟨p,_,rfl⟩:=List.mem_map.1 hx
 simp only [bA,AV.free,AV.free.freeL,nA,Zab,Bool.and_self]
theorem ZmC {l:List (Nat × List Nat)}:AV.free.freeL (bC l)=true:=Zba.2 fun x hx=>by
 obtain ⟨p,_,hx⟩:=List.mem_flatMap.1 hx
 simp only [List.mem_cons,List.not_mem_nil,or_false] at hx
 rcases hx with rfl | rfl
 ·rfl
 ·simp only [AV.free,Zab]
theorem ZGk {l:List (Nat × List Nat)}:flat (some 2) (l.map bA)=bC l:=by
 induction l with
 | nil=>rfl
 | cons p l ih =>
  simp only [List.map_cons,bC,List.flatMap_cons] at ih ⊢
  rw [←ih]
  rfl
theorem Za2 {l:List (Nat × List Nat)}:(bC l).length=l.length*2:=by
 induction l with
 | nil=>rfl
 | cons p l ih=>simp only [bC,List.flatMap_cons,List.length_append,List.length_cons,List.length_nil] at ih ⊢;omega
theorem ZlL {l m:List (Nat × List Nat)}:bC l++bC m=bC (l++m):=by simp [bC]
theorem ZsU {l:List (Nat × List Nat)}:(∀ y∈l.map bA,∃ xs,y = .agg xs)=True:=eq_true fun y hy=>by
 obtain ⟨p,_,rfl⟩:=List.mem_map.1 hy
 exact ⟨_,rfl⟩
theorem ZvS {l:List (Nat × List Nat)}:(l.map bA).flatMap (fun x=>(Zaq x).getD [])=bC l:=ZGk
set_option maxRecDepth 100000 in
theorem ZpG [Tabs Tryz.prog] (n1 n2:Bool) (l m:List (Nat × List Nat)) (hl:l.length≤100000) (hm:m.length≤100000) (h0:0<l.length+m.length) :
  HCon Tryz.prog ZbJ [.sl false none [.sl n1 (some 2) (l.map bA),.sl n2 (some 2) (m.map bA)]] [] (.own 1022 4 (some 2) 0 (l.length+m.length)) [(1022,4,.row false (bC (l++m)))] 5:=by
 refine HCon.of' mix Tryz.func155 rfl Tryz.ntmps155 Zds Zdt (by simp) (by simp only [AV.gl.glL,AV.gl,and_true];exact ⟨Zae _ _ Zji,Zae _ _ Zji⟩) (by simp) ?_
 unfold ZbK
 obtain ⟨n,hn⟩:∃ n,n=l.length+m.length:=⟨_,rfl⟩
 have hc:(l.length:Int)+(m.length:Int)=(n:Int):=by omega
 have d1:decide ((l.length:Int)<0)=false:=decide_eq_false (by omega)
 have d2:decide ((n:Int)<0)=false:=decide_eq_false (by omega)
 repeat (first | refine xR (ja4 @d1 @hc @d2 @List.length_map.{0,0}) ?_ | exact xU (ja4 @d1 @hc @d2 @List.length_map.{0,0}))
 refine SWp.unroll ?_
 repeat (first | refine xR (ja4 @d1 @hc @d2 @List.length_map.{0,0}) ?_ | exact xU (ja4 @d1 @hc @d2 @List.length_map.{0,0}))
 refine Zag [] 1000 (ZsT n (by omega) (by omega)) (by simp) (by simp) ?_ ?_ ?_
 iterate 2 (case _=>(first | exact vT | refine vS ?_))
 repeat (first | refine xR @List.length_map.{0,0} ?_ | exact xU @List.length_map.{0,0})
 have e1:l.length≤70368744177664:=by omega
 refine SWp.unroll ?_
 repeat (first | refine xR (ja5 @List.length_append.{0} @List.length_map.{0,0} @ZsU @ZvS @Za2) ?_ | exact xU (ja5 @List.length_append.{0} @List.length_map.{0,0} @ZsU @ZvS @Za2))
 exact ZlL
abbrev Bt:=Nat × List Nat
theorem ZmD {p:Bt} {l:List Bt}:bC (p::l)=nA p.1::.sl false none (p.2.map nA)::bC l:=by simp [bC]
theorem ZAU {l:List Bt} {i:Nat}:(bC l).drop (i*2)=bC (l.drop i):=by
 induction l generalizing i with
 | nil=>simp [bC]
 | cons p l ih =>
  cases i with
  | zero=>simp
  | succ i=>rw [ZmD,Nat.succ_mul];simpa using ih
theorem ZGl {l:List Bt} {i:Nat}:(bC l).take (i*2)=bC (l.take i):=by
 induction l generalizing i with
 | nil=>simp [bC]
 | cons p l ih =>
  cases i with
  | zero=>simp [bC]
  | succ i=>rw [ZmD,show (i+1)*2=i*2+1+1 from by omega,List.take_succ_cons,List.take_succ_cons,ih,List.take_succ_cons,ZmD]
theorem Zc7 {l:List Bt} {i:Nat} (h:i<l.length):((bC l).drop (i*2)).take 2=[nA (l.getD i (0,[])).1,.sl false none ((l.getD i (0,[])).2.map nA)]:=by
 rw [ZAU,List.drop_eq_getElem_cons h,ZmD]
 simp [List.getD,List.getElem?_eq_getElem h]
theorem ZgN {l:List Bt} {i c:Nat} {s:List Nat} (h:i<l.length):(bC l).take (i*2)++nA c::.sl false none (s.map nA)::(bC l).drop (i*2+2)=bC (l.set i (c,s)):=by
 rw [show i*2+2=(i+1)*2 from by omega,ZGl,ZAU,List.set_eq_take_append_cons_drop,if_pos h,←ZlL,ZmD]
theorem ZsV {l:List Bt}:∀ n cells,AO.row n cells∈[AO.row false (bC l)]→AV.gl.glL 1 cells:=by
 intro n cells h
 simp only [List.mem_singleton,AO.row.injEq] at h
 obtain ⟨-,rfl⟩:=h
 exact Zae _ _ ZmC
def ZhE (l:List Bt) (a b:Nat):Nat→List Bt
 | 0=>l
 | k+1=>((ZhE l a b k).set (a+k) ((ZhE l a b k).getD (b+k) (0,[]))).set (b+k) ((ZhE l a b k).getD (a+k) (0,[]))
theorem ZsW {l:List Bt} {a b k:Nat}:(ZhE l a b k).length=l.length:=by
 induction k with
 | zero=>rfl
 | succ k ih=>simp [ZhE,ih]
set_option maxRecDepth 100000 in
theorem Zeb [Tabs Tryz.prog] (l:List Bt) (f:AV) (hf:f.free=true) (hl:l.length≤100000) (a b n:Nat) (ha:a+n≤l.length) (hb:b+n≤l.length) :
  HCon Tryz.prog ZaF [.own 1000 0 (some 2) 0 l.length,int a,int b,int n,f] [.row false (bC l)] (.tup []) [(1000,0,.row false (bC (ZhE l a b n)))] 1:=by
 refine HCon.of' mix Tryz.func164 rfl Tryz.ntmps164 Zdu Zdv (by simp) (by simp only [AV.gl.glL,AV.gl,int,and_true,true_and];exact ⟨by omega,Zcr _ _ hf⟩) ZsV ?_
 unfold ZbL
 repeat (first | refine zS ?_ | exact zT)
 refine SWp.loop (α:=Nat) (fun k=>mk 38 1 [(0,.own 1000 0 (some 2) 0 l.length),(1,int a),(2,int b),(3,int n),(10,int k)] [(1000,0,.row false (bC (ZhE l a b k)))])
  (fun k=>k≤n) (fun k=>n-k) 0 (Nat.zero_le _) (Zau rfl ?_ ?_ ?_) ?_
 ·exact Nat.le_refl _
 iterate 2 (case _=>(first | exact yU (ja2 @ZhE.eq_1 @ZhE.eq_2) | refine yR (ja2 @ZhE.eq_1 @ZhE.eq_2) ?_))
 rintro k hk -
 repeat (first | refine zS ?_ | exact zT)
 refine SWp.cond rfl (fun h=>?_) (fun h=>?_)
 ·simp only [decide_eq_true_eq] at h
  have hL:=ZsW (l:=l) (a:=a) (b:=b) (k:=k)
  obtain ⟨L,hLL⟩:∃ L,L=ZhE l a b k:=⟨_,rfl⟩
  rw [←hLL] at hL
  obtain ⟨p,hp⟩:∃ p,p=a+k:=⟨_,rfl⟩
  obtain ⟨q,hq⟩:∃ q,q=b+k:=⟨_,rfl⟩
  have ep:(a:Int)+(k:Int)=(p:Int):=by omega
  have eq':(b:Int)+(k:Int)=(q:Int):=by omega
  have hpl:p<L.length:=by omega
  have hql:q<L.length:=by omega
  have e1:=Zc7 hpl
  have e2:=Zc7 hql
  have e3:(bC L).length=l.length*2:=by rw [Za2,hL]
  have hpq:p*2+2≤l.length*2:=by omega
  have hqq:q*2+2≤l.length*2:=by omega
  obtain ⟨x,hx⟩:∃ x,x=L.getD p (0,[]):=⟨_,rfl⟩
  obtain ⟨y,hy⟩:∃ y,y=L.getD q (0,[]):=⟨_,rfl⟩
  rw [←hx] at e1
  rw [←hy] at e2
  have s1:=ZgN (c:=y.1) (s:=y.2) hpl
  have e4:(bC (L.set p (y.1,y.2))).length=l.length*2:=by rw [Za2,List.length_set,hL]
  have s2:=ZgN (l:=L.set p (y.1,y.2)) (c:=x.1) (s:=x.2) (i:=q) (by rw [List.length_set];exact hql)
  repeat (first | refine zR (ja8 hLL.symm @ep @eq' @e1 @e2 @e3 @s1 (ja2 @e4 @s2)) ?_ | exact zU (ja8 hLL.symm @ep @eq' @e1 @e2 @e3 @s1 (ja2 @e4 @s2)))
  have hsw:ZhE l a b (k+1)=(L.set p (y.1,y.2)).set q (x.1,x.2):=by
   simp only [ZhE,←hLL,←hp,←hq,←hx,←hy]
  refine At.of (k+1) (by omega) (by omega) rfl rfl (Nat.le_refl _) ?_ ?_
  ·(first | exact yT | refine yS ?_)
   try omega
  ·(first | exact yU @hsw | refine yR @hsw ?_)
 ·simp only [decide_eq_false_iff_not] at h
  obtain rfl:k=n:=by omega
  repeat (first | refine zR @ZaB ?_ | exact zU @ZaB)
def Srt (l:List Bt):Prop:=l.Pairwise fun p q=>p.1≤q.1
def ZsX (A:List Bt) (x:Bt):List Bt:=A.takeWhile (fun p=>decide (p.1≤x.1))++x::A.dropWhile (fun p=>decide (p.1≤x.1))
def Zas (S:List Bt):List Bt:=S.foldl ZsX []
theorem ZoS {A1 A2:List Bt} {x:Bt} (h1:∀ q∈A1,q.1≤x.1) (h2:∀ q∈A2,x.1<q.1):ZsX (A1++A2) x=A1++x::A2:=by
 have e:∀ q∈A1,(fun p:Bt=>decide (p.1≤x.1)) q=true:=fun q hq=>by simpa using h1 q hq
 unfold ZsX
 rw [List.takeWhile_append_of_pos e,List.dropWhile_append_of_pos e]
 cases A2 with
 | nil=>simp
 | cons y A2 =>
  have hy:=h2 y (by simp)
  have:decide (y.1≤x.1)=false:=decide_eq_false (by omega)
  simp [List.takeWhile_cons,List.dropWhile_cons,this]
theorem ZsY {A:List Bt} {x:Bt} (h:Srt A):∃ A1 A2,A=A1++A2∧(∀ q∈A1,q.1≤x.1)∧∀ q∈A2,x.1<q.1:=by
 induction A with
 | nil=>exact ⟨[],[],rfl,by simp,by simp⟩
 | cons y A ih =>
  have hy:=List.pairwise_cons.1 h
  by_cases c:y.1≤x.1
  ·obtain ⟨A1,A2,rfl,h1,h2⟩:=ih hy.2
   exact ⟨y::A1,A2,rfl,by simpa using ⟨c,by simpa using h1⟩,h2⟩
  ·refine ⟨[],y::A,rfl,by simp,fun q hq=>?_⟩
   rcases List.mem_cons.1 hq with rfl | hq
   ·omega
   ·have:=hy.1 q hq;omega
theorem ZvT {A:List Bt} {x:Bt} (h:Srt A):Srt (ZsX A x):=by
 obtain ⟨A1,A2,rfl,h1,h2⟩:=ZsY (x:=x) h
 rw [ZoS h1 h2]
 obtain ⟨p1,p2,p3⟩:=List.pairwise_append.1 h
 refine List.pairwise_append.2 ⟨p1,List.pairwise_cons.2 ⟨fun q hq=>by have:=h2 q hq;omega,p2⟩,fun a ha b hb=>?_⟩
 rcases List.mem_cons.1 hb with rfl | hb
 ·exact h1 a ha
 ·exact p3 a ha b hb
theorem ZsZ:∀ {S A:List Bt},Srt A→Srt (S.foldl ZsX A)
 | [],_,h=>h
 | _::S,_,h=>ZsZ (S:=S) (ZvT h)
theorem ZcO (S:List Bt):Srt (Zas S):=ZsZ List.Pairwise.nil
theorem ZuP {A:List Bt} {x:Bt} (h:Srt A) (c:Nat):(ZsX A x).filter (fun p=>p.1==c)=(A++[x]).filter fun p=>p.1==c:=by
 obtain ⟨A1,A2,rfl,h1,h2⟩:=ZsY (x:=x) h
 rw [ZoS h1 h2]
 simp only [List.filter_append,List.filter_cons,List.filter_nil,List.append_assoc]
 by_cases e:x.1==c
 ·have:A2.filter (fun p=>p.1==c)=[]:=by
   rw [List.filter_eq_nil_iff]
   intro q hq
   have:=h2 q hq
   simp only [beq_iff_eq] at e ⊢
   omega
  simp [this,e]
 ·simp [e]
theorem Znb {c:Nat}:∀ {S A:List Bt},Srt A→(S.foldl ZsX A).filter (fun p=>p.1==c)=(A++S).filter fun p=>p.1==c
 | [],A,_=>by simp
 | x::S,A,h=>by
  rw [List.foldl_cons,Znb (S:=S) (ZvT h),List.filter_append,ZuP h]
  simp only [List.filter_append,List.filter_cons,List.filter_nil,List.append_assoc]
  split <;> simp
theorem ZdH {S:List Bt} {c:Nat}:(Zas S).filter (fun p=>p.1==c)=S.filter fun p=>p.1==c:=by
 have:=Znb (c:=c) (S:=S) (A:=[]) List.Pairwise.nil
 rw [List.nil_append] at this
 exact this
theorem Zqi:∀ {A B:List Bt},Srt A→Srt B→(∀ c,A.filter (fun p=>p.1==c)=B.filter fun p=>p.1==c)→A=B
 | [],[],_,_,_=>rfl
 | [],y::B,_,_,h=>by
  have:=h y.1
  simp at this
 | x::A,[],_,_,h=>by
  have:=h x.1
  simp at this
 | x::A,y::B,ha,hb,h=>by
  have ha':=List.pairwise_cons.1 ha
  have hb':=List.pairwise_cons.1 hb
  have hxy:x.1=y.1:=by
   have h1:∃ q∈y::B,q.1=x.1:=by
    have hx:x∈(y::B).filter (fun p=>p.1==x.1):=by rw [←h x.1];simp
    rw [List.mem_filter] at hx
    exact ⟨x,hx.1,rfl⟩
   have h2:∃ q∈x::A,q.1=y.1:=by
    have hy:y∈(x::A).filter (fun p=>p.1==y.1):=by rw [h y.1];simp
    rw [List.mem_filter] at hy
    exact ⟨y,hy.1,rfl⟩
   obtain ⟨q,hq,e⟩:=h1
   obtain ⟨r,hr,e'⟩:=h2
   have l1:y.1≤x.1:=by
    rcases List.mem_cons.1 hq with rfl | hq
    ·omega
    ·have:=hb'.1 q hq;omega
   have l2:x.1≤y.1:=by
    rcases List.mem_cons.1 hr with rfl | hr
    ·omega
    ·have:=ha'.1 r hr;omega
   omega
  have hx:=h x.1
  have e1:(x.1==x.1)=true:=by simp
  have e2:(y.1==x.1)=true:=by simp [hxy]
  rw [List.filter_cons_of_pos (by simp),List.filter_cons_of_pos (by simp [hxy])] at hx
  obtain ⟨e,hrest⟩:=List.cons.inj hx
  subst e
  rw [Zqi ha'.2 hb'.2 fun c=>?_]
  have:=h c
  simp only [List.filter_cons] at this
  split at this
  ·exact (List.cons.inj this).2
  ·exact this
theorem ZnT {S A:List Bt} (h:Srt A) (hf:∀ c,A.filter (fun p=>p.1==c)=S.filter fun p=>p.1==c):A=Zas S :=
 Zqi h (ZcO S) fun c=>by rw [hf c,ZdH]
theorem Zqj {S:List Bt} {x:Bt}:Zas (S++[x])=ZsX (Zas S) x:=by simp [Zas]
theorem ZuQ {A:List Bt} {x:Bt}:(ZsX A x).length=A.length+1:=by
 have:=congrArg List.length (List.takeWhile_append_dropWhile (p:=fun p:Bt=>decide (p.1≤x.1)) (l:=A))
 simp only [List.length_append] at this
 simp only [ZsX,List.length_append,List.length_cons]
 omega
theorem Znc:∀ {S A:List Bt},(S.foldl ZsX A).length=A.length+S.length
 | [],_=>by simp
 | _::S,A=>by rw [List.foldl_cons,Znc (S:=S),ZuQ,List.length_cons];omega
theorem Zan {S:List Bt}:(Zas S).length=S.length:=by simp [Zas,Znc]
theorem Zdh {S:List Bt} {q:Bt}:q∈Zas S↔q∈S:=by
 have h:=ZdH (S:=S) (c:=q.1)
 have e:∀ l:List Bt,q∈l↔q∈l.filter fun p=>p.1==q.1:=fun l=>by simp
 rw [e (Zas S),h,←e]
theorem ZeM {S:List Bt} (h:Srt S):Zas S=S:=(ZnT h fun _=>rfl).symm
theorem Zyi {x:Bt} {Y1 Y2:List Bt} (h:Srt (Y1++Y2)) (h1:∀ y∈Y1,y.1<x.1) (h2:∀ y∈Y2,x.1≤y.1):Zas (x::(Y1++Y2))=Y1++x::Y2:=by
 refine (ZnT ?_ fun c=>?_).symm
 ·obtain ⟨p1,p2,p3⟩:=List.pairwise_append.1 h
  refine List.pairwise_append.2 ⟨p1,List.pairwise_cons.2 ⟨h2,p2⟩,fun a ha b hb=>?_⟩
  rcases List.mem_cons.1 hb with rfl | hb
  ·have:=h1 a ha;omega
  ·exact p3 a ha b hb
 ·simp only [List.filter_append,List.filter_cons]
  by_cases e:x.1==c
  ·have:Y1.filter (fun p=>p.1==c)=[]:=by
    rw [List.filter_eq_nil_iff]
    intro q hq
    have:=h1 q hq
    simp only [beq_iff_eq] at e ⊢
    omega
   simp [this,e]
  ·simp [e]
theorem ZuR {y:Bt} {X1 X2:List Bt} (h:Srt (X1++X2)) (h1:∀ x∈X1,x.1≤y.1) (h2:∀ x∈X2,y.1<x.1):Zas ((X1++X2)++[y])=X1++y::X2:=by
 rw [Zqj,ZeM h,ZoS h1 h2]
theorem ZoT {X1 X2 Y1 Y2:List Bt} (hx:Srt (X1++X2)) (hy:Srt (Y1++Y2)) (h1:∀ x∈X1,∀ y∈Y2,x.1≤y.1) (h2:∀ y∈Y1,∀ x∈X2,y.1<x.1) :
  Zas ((X1++X2)++(Y1++Y2))=Zas (X1++Y1)++Zas (X2++Y2):=by
 refine (ZnT ?_ fun c=>?_).symm
 ·refine List.pairwise_append.2 ⟨ZcO _,ZcO _,fun a ha b hb=>?_⟩
  rw [Zdh,List.mem_append] at ha hb
  rcases ha with ha | ha <;> rcases hb with hb | hb
  ·exact (List.pairwise_append.1 hx).2.2 a ha b hb
  ·exact h1 a ha b hb
  ·have:=h2 a ha b hb;omega
  ·exact (List.pairwise_append.1 hy).2.2 a ha b hb
 ·rw [List.filter_append,ZdH,ZdH]
  simp only [List.filter_append,List.append_assoc]
  congr 1
  rw [←List.append_assoc,←List.append_assoc]
  congr 1
  by_cases e:∃ y∈Y1,y.1=c
  ·obtain ⟨y,hy1,rfl⟩:=e
   have:X2.filter (fun p=>p.1==y.1)=[]:=by
    rw [List.filter_eq_nil_iff]
    intro q hq
    have:=h2 y hy1 q hq
    simp only [beq_iff_eq]
    omega
   simp [this]
  ·have:Y1.filter (fun p=>p.1==c)=[]:=by
    rw [List.filter_eq_nil_iff]
    intro q hq hh
    exact e ⟨q,hq,by simpa using hh⟩
   simp [this]
def Zdi:AV:=.sc (.func (.func Zbp) #[] #[])
theorem Zs0:Zas []=[]:=rfl
theorem Zs1 {x:Bt}:Zas [x]=[x]:=rfl
theorem ZjA {U V:List Bt} {x:Bt}:(U++x::V).getD U.length (0,[])=x:=by simp [List.getD]
theorem ZoU {U V:List Bt} {x y:Bt}:(U++y::x::V).getD (U.length+1) (0,[])=x:=by simp [List.getD]
theorem ZvU {U V:List Bt} {x y:Bt}:((U++y::x::V).set (U.length+1) y).set U.length x=U++x::y::V:=by
 rw [List.set_append_right _ _ (by omega),List.set_append_right _ _ (by omega)]
 simp
set_option maxRecDepth 100000 in
theorem Zet [Tabs Tryz.prog] (Pf S Tl:List Bt) (N a b:Nat) (hN:N=(Pf++S++Tl).length) (hl:N≤100000) (ha:a=Pf.length) (hb:b=Pf.length+S.length) :
  HCon Tryz.prog ZaQ [.own 1000 0 (some 2) 0 N,int a,int b,Zdi] [.row false (bC (Pf++S++Tl))] (.tup []) [(1000,0,.row false (bC (Pf++Zas S++Tl)))] 1:=by
 refine HCon.of' mix Tryz.func160 rfl Tryz.ntmps160 ZcM ZcN (by simp) (by simp only [AV.gl.glL,AV.gl,int,Zdi,and_true];omega) ZsV ?_
 unfold Zbs
 have hlen:N=Pf.length+S.length+Tl.length:=by rw [hN];simp;omega
 clear hN
 repeat (first | refine zS ?_ | exact zT)
 cases S with
 | nil =>
  have d0:decide ((a:Int)+1<(b:Int))=false:=decide_eq_false (by simp at hb;omega)
  refine SWp.unroll ?_
  repeat (first | refine zR (ja3 @d0 @ZaB @Zs0) ?_ | exact zU (ja3 @d0 @ZaB @Zs0))
 | cons s0 S =>
  refine SWp.loop (α:=Nat) (fun k=>mk 53 1 [(0,.own 1000 0 (some 2) 0 N),(1,int a),(2,int b),(3,Zdi),(8,int (a+k:Nat))] [(1000,0,.row false (bC (Pf++(Zas ((s0::S).take k)++((s0::S).drop k++Tl)))))])
   (fun k=>1≤k∧k≤(s0::S).length) (fun k=>(s0::S).length-k) 1 ⟨Nat.le_refl _,by simp⟩ (Zau rfl ?_ ?_ ?_) ?_
  ·exact Nat.le_refl _
  iterate 2 (case _=>(first | exact yU @Zs1 | refine yR @Zs1 ?_))
  generalize hS:s0::S=S' at *
  rintro k ⟨hk1,hk2⟩ -
  obtain ⟨i,hi⟩:∃ i,i=a+k:=⟨_,rfl⟩
  rw [←hi]
  repeat (first | refine zS ?_ | exact zT)
  refine SWp.cond rfl (fun h=>?_) (fun h=>?_)
  ·simp only [decide_eq_true_eq] at h
   have hkl:k<S'.length:=by omega
   obtain ⟨x,hx⟩:∃ x,x=S'[k]:=⟨_,rfl⟩
   have hdr:S'.drop k=x::S'.drop (k+1):=by rw [hx];exact List.drop_eq_getElem_cons hkl
   have htk:S'.take (k+1)=S'.take k++[x]:=by rw [hx,List.take_succ_eq_append_getElem hkl]
   have hAl:(Zas (S'.take k)).length=k:=by rw [Zan,List.length_take];omega
   have hsrt:=ZcO (S'.take k)
   have hnx:Zas (S'.take (k+1))=ZsX (Zas (S'.take k)) x:=by rw [htk,Zqj]
   obtain ⟨A,hA⟩:∃ A,A=Zas (S'.take k):=⟨_,rfl⟩
   rw [←hA] at hAl hsrt hnx
   have hil:(a:Int)+(A.length:Int)=(i:Int):=by omega
   rw [hdr,←hA]
   repeat (first | refine zS ?_ | exact zT)
   refine SWp.loop (α:=List Bt × List Bt) (fun p=>mk 53 1 [(0,.own 1000 0 (some 2) 0 N),(1,int a),(2,int b),(3,Zdi),(8,int i),(9,int (a+p.1.length:Nat))] [(1000,0,.row false (bC (Pf++(p.1++x::(p.2++(S'.drop (k+1)++Tl))))))])
    (fun p=>p.1++p.2=A∧∀ q∈p.2,x.1<q.1) (fun p=>p.1.length) (A,[]) ⟨by simp,by simp⟩ (Zau rfl ?_ ?_ ?_) ?_
   ·exact Nat.le_refl _
   iterate 2 (case _=>(first | exact yU @hil | refine yR @hil ?_))
   rintro ⟨A1,A2⟩ ⟨hA12,hgt⟩ -
   simp only at hA12 hgt
   rcases List.eq_nil_or_concat A1 with rfl | ⟨B,y,rfl⟩
   ·have d1:decide ((a:Int)>(a:Int))=false:=decide_eq_false (by omega)
    have e:Zas (S'.take (k+1))=x::A2:=by rw [hnx,←hA12,ZoS (by simp) hgt];rfl
    repeat (first | refine zR (ja3 @List.length_nil.{0} @Nat.add_zero @d1) ?_ | exact zU (ja3 @List.length_nil.{0} @Nat.add_zero @d1))
    refine At.of (k+1) (by omega) (by omega) rfl rfl (Nat.le_refl _) ?_ ?_
    ·(first | exact yT | refine yS ?_)
     try omega
    ·(first | exact yU @e | refine yR @e ?_)
   ·simp only [List.concat_eq_append] at hA12 ⊢
    obtain ⟨p,hp⟩:∃ p,p=a+B.length:=⟨_,rfl⟩
    obtain ⟨q,hq⟩:∃ q,q=a+(B++[y]).length:=⟨_,rfl⟩
    obtain ⟨W,hWd⟩:∃ W,W=(Pf++B)++y::x::(A2++(S'.drop (k+1)++Tl)):=⟨_,rfl⟩
    have hW:Pf++((B++[y])++x::(A2++(S'.drop (k+1)++Tl)))=W:=by rw [hWd];simp
    have hqp:q=p+1:=by rw [hq,hp];simp;omega
    have hUl:(Pf++B).length=p:=by rw [hp,ha];simp
    have hBA:B.length+1+A2.length=k:=by rw [←hAl,←hA12];simp;omega
    have hWl:W.length=N:=by
     rw [hWd]
     simp only [List.length_append,List.length_cons,List.length_drop]
     omega
    have hpl:p<W.length:=by omega
    have hql:q<W.length:=by omega
    have e1:=Zc7 hpl
    have e2:=Zc7 hql
    have g1:W.getD p (0,[])=y:=by rw [hWd,←hUl];exact ZjA
    have g2:W.getD q (0,[])=x:=by rw [hWd,hqp,←hUl];exact ZoU
    rw [g1] at e1
    rw [g2] at e2
    have e3:(bC W).length=N*2:=by rw [Za2,hWl]
    have s1:=ZgN (c:=y.1) (s:=y.2) hql
    have e4:(bC (W.set q (y.1,y.2))).length=N*2:=by rw [Za2,List.length_set,hWl]
    have s2:=ZgN (l:=W.set q (y.1,y.2)) (c:=x.1) (s:=x.2) (i:=p) (by rw [List.length_set];exact hpl)
    have hsw:(W.set q (y.1,y.2)).set p (x.1,x.2)=Pf++(B++(x::(y::(A2++(S'.drop (k+1)++Tl))))):=by
     rw [hWd,hqp,←hUl,ZvU];simp
    rw [hsw] at s2
    have d1:decide ((q:Int)>(a:Int))=true:=decide_eq_true (by omega)
    have eqp:(q:Int)-1=(p:Int):=by omega
    have hpN:p*2+2≤N*2:=by omega
    have hqN:q*2+2≤N*2:=by omega
    rw [←hq,hW]
    clear hW hsw
    repeat (first | refine zR (ja5 @d1 @eqp @e1 @e2 @e3) ?_ | exact zU (ja5 @d1 @eqp @e1 @e2 @e3))
    refine Zsa Zbp rfl (by decide) ?_
    refine Zay _ (.inl ⟨by simp only [AV.free,AV.free.freeL,nA,Zab,Bool.and_self],Zdg (x.1:Int) (y.1:Int) _ _ (by simp only [AV.free,Zab]) (by simp only [AV.free,Zab])⟩) ?_
    by_cases c:x.1<y.1
    ·have dc:decide (Zl1 (x.1:Int) (y.1:Int)<0)=true:=by
      unfold Zl1;rw [if_pos (by omega)];rfl
     repeat (first | refine zR (ja8 @dc @eqp @e1 @e2 @e3 @s1 @e4 @s2) ?_ | exact zU (ja8 @dc @eqp @e1 @e2 @e3 @s1 @e4 @s2))
     refine At.of (B,y::A2) ⟨by rw [←hA12];simp,fun r hr=>?_⟩ (by simp) rfl rfl (Nat.le_refl _) ?_ ?_
     ·rcases List.mem_cons.1 hr with rfl | hr
      ·exact c
      ·exact hgt r hr
     ·(first | exact yT | refine yS ?_)
      try omega
     ·(first | exact yT | refine yS ?_)
    ·have dc:decide (Zl1 (x.1:Int) (y.1:Int)<0)=false:=by
      unfold Zl1;rw [if_neg (by omega)];split <;> rfl
     have hle:∀ r∈B++[y],r.1≤x.1:=fun r hr=>by
      rcases List.mem_append.1 hr with hr | hr
      ·rw [←hA12,List.append_assoc] at hsrt
       have:=(List.pairwise_append.1 hsrt).2.2 r hr y (by simp)
       omega
      ·simp only [List.mem_singleton] at hr
       subst hr;omega
     have e:Zas (S'.take (k+1))=B++[y]++x::A2:=by rw [hnx,←hA12,ZoS hle hgt]
     repeat (first | refine zR @dc ?_ | exact zU @dc)
     refine At.of (k+1) (by omega) (by omega) rfl rfl (Nat.le_refl _) ?_ ?_
     ·(first | exact yT | refine yS ?_)
      try omega
     ·(first | exact yU (ja2 @e @hWd) | refine yR (ja2 @e @hWd) ?_)
  ·simp only [decide_eq_false_iff_not] at h
   obtain rfl:k=S'.length:=by omega
   repeat (first | refine zR (ja3 @ZaB @List.take_length.{0} @List.drop_length.{0}) ?_ | exact zU (ja3 @ZaB @List.take_length.{0} @List.drop_length.{0}))
theorem ZGm {U V W:List Bt} {x y:Bt}:((U++(x::(V++(y::W)))).set U.length y).set (U.length+1+V.length) x=U++(y::(V++(x::W))):=by
 rw [List.set_append_right _ _ (by omega),Nat.sub_self,List.set_cons_zero,List.set_append_right _ _ (by omega),
  show U.length+1+V.length-U.length=V.length+1 from by omega,List.set_cons_succ,List.set_append_right _ _ (by omega),Nat.sub_self,List.set_cons_zero]
theorem ZGn {U V W:List Bt} {x y:Bt}:(U++(x::(V++(y::W)))).getD (U.length+1+V.length) (0,[])=y:=by
 simp only [List.getD,List.getElem?_append_right (show U.length≤U.length+1+V.length by omega)]
 rw [show U.length+1+V.length-U.length=V.length+1 from by omega,List.getElem?_cons_succ,List.getElem?_append_right (by omega)]
 simp
theorem ZgO {U X V Y W:List Bt} (h:X.length=Y.length):∀ k,k≤X.length →
  ZhE (U++(X++(V++(Y++W)))) U.length (U.length+X.length+V.length) k=U++((Y.take k++X.drop k)++(V++((X.take k++Y.drop k)++W)))
 | 0,_=>by simp [ZhE]
 | k+1,hk=>by
  have hkx:k<X.length:=by omega
  have hky:k<Y.length:=by omega
  have dx:=List.drop_eq_getElem_cons hkx
  have dy:=List.drop_eq_getElem_cons hky
  have tx:=List.take_succ_eq_append_getElem hkx
  have ty:=List.take_succ_eq_append_getElem hky
  have ih:=ZgO (U:=U) (V:=V) (W:=W) h k (by omega)
  generalize X[k]=x at *
  generalize Y[k]=y at *
  have e:U++((Y.take k++X.drop k)++(V++((X.take k++Y.drop k)++W)))=(U++Y.take k)++(x::((X.drop (k+1)++V++X.take k)++(y::(Y.drop (k+1)++W)))):=by
   rw [dx,dy];simp
  have l1:U.length+k=(U++Y.take k).length:=by simp;omega
  have l2:U.length+X.length+V.length+k=(U++Y.take k).length+1+(X.drop (k+1)++V++X.take k).length:=by simp;omega
  simp only [ZhE,ih]
  rw [e,l1,l2,ZGn,ZjA,ZGm,tx,ty]
  simp
theorem Zam {ρ:Nat→Nat→Nat × Nat} {l:List Bt}:ren.renL ρ (bC l)=bC l:=Zbb ρ _ ZmC
set_option maxRecDepth 100000 in
theorem Zjj [Tabs Tryz.prog] (Pf X0 Y0 Tl:List Bt) (N a m b:Nat) (hN:N=(Pf++(X0++(Y0++Tl))).length) (hl:N≤100000) (ha:a=Pf.length) (hm:m=Pf.length+X0.length) (hb:b=Pf.length+X0.length+Y0.length) (hx0:0<X0.length) (hy0:0<Y0.length) :
  HCon Tryz.prog Zb1 [.own 1000 0 (some 2) 0 N,int a,int m,int b,Zdi] [.row false (bC (Pf++(X0++(Y0++Tl))))] (.tup []) [(1000,0,.row false (bC (Pf++(Y0++(X0++Tl)))))] (2+(X0.length+Y0.length)):=by
 refine HCon.of' mix Tryz.func163 rfl Tryz.ntmps163 Zeh Zei (by simp) (by simp only [AV.gl.glL,AV.gl,int,Zdi,and_true];omega) ZsV ?_
 unfold Zb4
 have hlen:N=Pf.length+(X0.length+(Y0.length+Tl.length)):=by rw [hN];simp
 clear hN
 have c1:(m:Int)-(a:Int)=(X0.length:Int):=by omega
 have c2:(b:Int)-(m:Int)=(Y0.length:Int):=by omega
 obtain ⟨n0,hn0⟩:∃ n0,n0=X0.length+Y0.length:=⟨_,rfl⟩
 rw [←hn0]
 repeat (first | refine zR (ja2 @c1 @c2) ?_ | exact zU (ja2 @c1 @c2))
 refine SWp.loop (α:=(List Bt × List Bt) × (List Bt × List Bt) × Nat) (fun p=>mk 58 (1+p.2.2) [(0,.own 1000 0 (some 2) 0 N),(1,int a),(2,int m),(3,int b),(4,Zdi),(10,int p.1.2.length),(11,int p.2.1.1.length)] [(1000,0,.row false (bC (Pf++(p.1.1++(p.1.2++(p.2.1.1++(p.2.1.2++Tl)))))))])
  (fun p=>p.1.1++(p.2.1.1++(p.1.2++p.2.1.2))=Y0++X0∧m=Pf.length+p.1.1.length+p.1.2.length∧0<p.1.2.length∧0<p.2.1.1.length∧p.2.2+p.1.2.length+p.2.1.1.length≤n0)
  (fun p=>p.1.2.length+p.2.1.1.length) (([],X0),(Y0,[]),0) ⟨by simp,by simp;omega,hx0,hy0,by simp;omega⟩ (Zau rfl ?_ ?_ ?_) ?_
 ·exact Nat.le_refl _
 iterate 2 (case _=>(first | exact yT | refine yS ?_))
 rintro ⟨⟨D1,X⟩,⟨Y,D2⟩,cc⟩ ⟨hD,hmm,hx,hy,hcc⟩ -
 simp only at hD hmm hx hy hcc
 have htot:D1.length+(Y.length+(X.length+D2.length))=Y0.length+X0.length:=by
  have:=congrArg List.length hD
  simpa using this
 have hL:(Pf++(D1++(X++(Y++(D2++Tl))))).length=N:=by simp;omega
 repeat (first | refine zS ?_ | exact zT)
 obtain ⟨p,hp⟩:∃ p,p=(Pf++D1).length:=⟨_,rfl⟩
 have hp':p=Pf.length+D1.length:=by rw [hp];simp
 have em:(m:Int)-(X.length:Int)=(p:Int):=by omega
 have hmN:m+Y.length≤N:=by omega
 refine SWp.cond rfl (fun h=>?_) (fun h=>?_)
 ·have h:X.length≠Y.length:=by
   simp at h;omega
  repeat (first | refine zS ?_ | exact zT)
  refine SWp.cond rfl (fun h'=>?_) (fun h'=>?_)
  ·simp only [decide_eq_true_eq] at h'
   have h':Y.length<X.length:=by omega
   obtain ⟨X1,hX1⟩:∃ X1,X1=X.take Y.length:=⟨_,rfl⟩
   obtain ⟨X2,hX2⟩:∃ X2,X2=X.drop Y.length:=⟨_,rfl⟩
   have hX:X=X1++X2:=by rw [hX1,hX2,List.take_append_drop]
   have l1:X1.length=Y.length:=by rw [hX1,List.length_take];omega
   have l2:X2.length=X.length-Y.length:=by rw [hX2,List.length_drop]
   have hres:ZhE (Pf++(D1++(X++(Y++(D2++Tl))))) p m Y.length=Pf++(D1++(Y++(X2++(X1++(D2++Tl))))):=by
    have:=ZgO (U:=Pf++D1) (X:=X1) (V:=X2) (Y:=Y) (W:=D2++Tl) l1 X1.length (Nat.le_refl _)
    rw [←hp,show p+X1.length+X2.length=m from by omega,List.drop_length,List.take_length,l1,List.take_length,List.drop_length] at this
    rw [hX]
    simpa using this
   have hsw:=Zeb (Pf++(D1++(X++(Y++(D2++Tl))))) Zdi rfl (by omega) p m Y.length (by omega) (by omega)
   rw [hL,hres] at hsw
   have e2:(X.length:Int)-(Y.length:Int)=(X2.length:Int):=by omega
   repeat (first | refine zR @em ?_ | exact zU @em)
   refine Zag [(1000,0)] 2000 hsw (by simp) (by simp) ?_ ?_ ?_
   iterate 2 (case _=>(first | exact yU (ja2 @Zam @Zdi.eq_1) | refine yR (ja2 @Zam @Zdi.eq_1) ?_))
   repeat (first | refine zR (ja2 @e2 @Zam) ?_ | exact zU (ja2 @e2 @Zam))
   refine At.of ((D1++Y,X2),(X1,D2),cc+1) ⟨?_,?_,?_,?_,?_⟩ ?_ rfl rfl (Nat.le_refl _) ?_ ?_
   ·rw [←hD,hX];simp
   ·simp;omega
   ·simp only;omega
   ·simp only;omega
   ·simp only;omega
   ·simp only;omega
   iterate 2 (case _=>(first | exact yU @l1 | refine yR @l1 ?_))
  ·simp only [decide_eq_false_iff_not] at h'
   have h':X.length<Y.length:=by omega
   obtain ⟨Y1,hY1⟩:∃ Y1,Y1=Y.take (Y.length-X.length):=⟨_,rfl⟩
   obtain ⟨Y2,hY2⟩:∃ Y2,Y2=Y.drop (Y.length-X.length):=⟨_,rfl⟩
   have hY:Y=Y1++Y2:=by rw [hY1,hY2,List.take_append_drop]
   have l1:Y1.length=Y.length-X.length:=by rw [hY1,List.length_take];omega
   have l2:Y2.length=X.length:=by rw [hY2,List.length_drop];omega
   obtain ⟨q,hq⟩:∃ q,q=m+Y1.length:=⟨_,rfl⟩
   have hres:ZhE (Pf++(D1++(X++(Y++(D2++Tl))))) p q X.length=Pf++(D1++(Y2++(Y1++(X++(D2++Tl))))):=by
    have:=ZgO (U:=Pf++D1) (X:=X) (V:=Y1) (Y:=Y2) (W:=D2++Tl) l2.symm X.length (Nat.le_refl _)
    rw [←hp,show p+X.length+Y1.length=q from by omega,List.drop_length,List.take_length,←l2,List.take_length,List.drop_length] at this
    rw [hY,←l2]
    simpa using this
   have hsw:=Zeb (Pf++(D1++(X++(Y++(D2++Tl))))) Zdi rfl (by omega) p q X.length (by omega) (by omega)
   rw [hL,hres] at hsw
   have e2:(Y.length:Int)-(X.length:Int)=(Y1.length:Int):=by omega
   have e3:(m:Int)+(Y.length:Int)-(X.length:Int)=(q:Int):=by omega
   repeat (first | refine zR (ja2 @em @e3) ?_ | exact zU (ja2 @em @e3))
   refine Zag [(1000,0)] 2000 hsw (by simp) (by simp) ?_ ?_ ?_
   iterate 2 (case _=>(first | exact yU (ja2 @Zam @Zdi.eq_1) | refine yR (ja2 @Zam @Zdi.eq_1) ?_))
   repeat (first | refine zR (ja2 @e2 @Zam) ?_ | exact zU (ja2 @e2 @Zam))
   refine At.of ((D1,Y2),(Y1,X++D2),cc+1) ⟨?_,?_,?_,?_,?_⟩ ?_ rfl rfl (Nat.le_refl _) ?_ ?_
   ·rw [←hD,hY];simp
   ·simp only;omega
   ·simp only;omega
   ·simp only;omega
   ·simp only;omega
   ·simp only;omega
   iterate 2 (case _=>(first | exact yU @l2 | refine yR @l2 ?_))
 ·have h:X.length=Y.length:=by
   simp at h;omega
  have hres:ZhE (Pf++(D1++(X++(Y++(D2++Tl))))) p m X.length=Pf++(Y0++(X0++Tl)):=by
   have:=ZgO (U:=Pf++D1) (X:=X) (V:=[]) (Y:=Y) (W:=D2++Tl) h X.length (Nat.le_refl _)
   rw [←hp,show p+X.length+([]:List Bt).length=m from by simp;omega,List.drop_length,List.take_length,h,List.take_length,List.drop_length] at this
   rw [h,show Pf++(Y0++(X0++Tl))=Pf++((Y0++X0)++Tl) from by simp,←hD]
   simpa using this
  have hsw:=Zeb (Pf++(D1++(X++(Y++(D2++Tl))))) Zdi rfl (by omega) p m X.length (by omega) (by omega)
  rw [hL,hres] at hsw
  repeat (first | refine zR @em ?_ | exact zU @em)
  refine Zag [(1000,0)] 2000 hsw (by simp) (by simp) ?_ ?_ ?_
  iterate 2 (case _=>(first | exact yU (ja2 @Zam @Zdi.eq_1) | refine yR (ja2 @Zam @Zdi.eq_1) ?_))
  repeat (first | refine zR (ja2 @ZaB @Zam) ?_ | exact zU (ja2 @ZaB @Zam))
  omega
theorem ZjB {Y:List Bt} (h:Srt Y) {w:Nat} (hw:w<Y.length):∀ y∈Y.take (w+1),y.1≤(Y.getD w (0,[])).1:=fun y hy=>by
 rw [List.take_succ_eq_append_getElem hw] at hy
 have e:Y.getD w (0,[])=Y[w]:=by simp [List.getD,List.getElem?_eq_getElem hw]
 rw [e]
 rcases List.mem_append.1 hy with hy | hy
 ·have:=List.take_append_drop w Y
  rw [←this] at h
  exact (List.pairwise_append.1 h).2.2 y hy Y[w] (by rw [List.drop_eq_getElem_cons hw];exact List.mem_cons_self)
 ·simp only [List.mem_singleton] at hy
  rw [hy];exact Nat.le_refl _
theorem ZjC {Y:List Bt} (h:Srt Y) {w:Nat} (hw:w<Y.length):∀ y∈Y.drop w,(Y.getD w (0,[])).1≤y.1:=fun y hy=>by
 have e:Y.getD w (0,[])=Y[w]:=by simp [List.getD,List.getElem?_eq_getElem hw]
 rw [e]
 have:=List.take_append_drop w Y
 rw [←this] at h
 have h2:=(List.pairwise_append.1 h).2.1
 rw [List.drop_eq_getElem_cons hw] at h2 hy
 rcases List.mem_cons.1 hy with rfl | hy
 ·exact Nat.le_refl _
 ·exact (List.pairwise_cons.1 h2).1 y hy
theorem ZGo {U V:List Bt} {x y:Bt}:((U++x::y::V).set U.length y).set (U.length+1) x=U++y::x::V:=by
 rw [List.set_append_right _ _ (by omega),List.set_append_right _ _ (by omega)]
 simp
set_option maxRecDepth 100000 in
theorem Zj6 [Tabs Tryz.prog] (Pf Y Tl:List Bt) (x:Bt) (N a m b:Nat) (hN:N=(Pf++(x::(Y++Tl))).length) (hl:N≤100000) (ha:a=Pf.length) (hm:m=Pf.length+1) (hb:b=m+Y.length) (hY:Srt Y) (K:Nat) (hK:1≤K) :
  HCon Tryz.prog Zar [.own 1000 0 (some 2) 0 N,int a,int m,int b,Zdi] [.row false (bC (Pf++(x::(Y++Tl))))] (.tup []) [(1000,0,.row false (bC (Pf++(Zas (x::Y)++Tl))))] K:=by
 refine HCon.of' mix Tryz.func161 rfl Tryz.ntmps161 Za8 Za9 (by simp) (by simp only [AV.gl.glL,AV.gl,int,Zdi,and_true];omega) ZsV ?_
 unfold ZaH
 have hlen:N=Pf.length+(Y.length+Tl.length)+1:=by rw [hN];simp;omega
 have d0:decide ((m:Int)-(a:Int)=1)=true:=decide_eq_true (by omega)
 obtain ⟨W,hW⟩:∃ W,W=Pf++(x::(Y++Tl)):=⟨_,rfl⟩
 rw [←hW] at hN
 rw [←hW]
 repeat (first | refine xR @d0 ?_ | exact xU @d0)
 refine SWp.loop (α:=Nat × Nat) (fun p=>mk 220 1 [(0,.own 1000 0 (some 2) 0 N),(1,int a),(2,int m),(3,int b),(4,Zdi),(10,int (m+p.1:Nat)),(11,int (m+p.2:Nat))] [(1000,0,.row false (bC W))])
  (fun p=>p.1≤p.2∧p.2≤Y.length∧(∀ y∈Y.take p.1,y.1<x.1)∧(∀ y∈Y.drop p.2,x.1≤y.1)) (fun p=>p.2-p.1) (0,Y.length) ⟨Nat.zero_le _,Nat.le_refl _,by simp,by simp⟩ (Zau rfl ?_ ?_ ?_) ?_
 ·exact Nat.le_refl _
 iterate 2 (case _=>(first | exact vU @hb | refine vR @hb ?_))
 rintro ⟨u,v⟩ ⟨huv,hv,hlo,hhi⟩ -
 simp only at huv hv hlo hhi
 obtain ⟨i,hi⟩:∃ i,i=m+u:=⟨_,rfl⟩
 obtain ⟨j,hj⟩:∃ j,j=m+v:=⟨_,rfl⟩
 rw [←hi,←hj]
 repeat (first | refine xS ?_ | exact xT)
 refine SWp.cond rfl (fun h=>?_) (fun h=>?_)
 ·simp only [decide_eq_true_eq] at h
  obtain ⟨w,hw⟩:∃ w,w=(u+v) / 2:=⟨_,rfl⟩
  obtain ⟨q,hq⟩:∃ q,q=m+w:=⟨_,rfl⟩
  have hmid:IntKind.i64.wrap ((IntKind.u64.wrap ((i:Int)+(j:Int))).fdiv (2^1))=(q:Int):=by
   rw [Zbi (by omega) (by omega),show ((2:Int)^1)=2 from rfl,Int.fdiv_eq_ediv_of_nonneg _ (by omega),ZbI (by omega) (by omega)]
   omega
  have hwY:w<Y.length:=by omega
  have hql:q<W.length:=by omega
  have hal:a<W.length:=by omega
  have e1:=Zc7 hql
  have e2:=Zc7 hal
  have g1:W.getD q (0,[])=Y.getD w (0,[]):=by
   rw [hW,hq,hm]
   simp only [List.getD]
   rw [List.getElem?_append_right (by omega),show Pf.length+1+w-Pf.length=w+1 from by omega,List.getElem?_cons_succ,List.getElem?_append_left hwY]
  have g2:W.getD a (0,[])=x:=by rw [hW,ha];exact ZjA
  obtain ⟨y,hy⟩:∃ y,y=Y.getD w (0,[]):=⟨_,rfl⟩
  rw [g1,←hy] at e1
  rw [g2] at e2
  have e3:(bC W).length=N*2:=by rw [Za2,hN]
  have haN:a*2+2≤N*2:=by omega
  have hqN:q*2+2≤N*2:=by omega
  have hst:=ZjB hY hwY
  have hsd:=ZjC hY hwY
  rw [←hy] at hst hsd
  repeat (first | refine xR (ja4 @hmid @e1 @e2 @e3) ?_ | exact xU (ja4 @hmid @e1 @e2 @e3))
  refine Zsa Zbp rfl (by decide) ?_
  refine Zay _ (.inl ⟨by simp only [AV.free,AV.free.freeL,nA,Zab,Bool.and_self],Zdg (y.1:Int) (x.1:Int) _ _ (by simp only [AV.free,Zab]) (by simp only [AV.free,Zab])⟩) ?_
  by_cases c:y.1<x.1
  ·have dc:decide (Zl1 (y.1:Int) (x.1:Int)<0)=true:=by
    unfold Zl1;rw [if_pos (by omega)];rfl
   repeat (first | refine xR @dc ?_ | exact xU @dc)
   refine At.of (w+1,v) ⟨by simp only;omega,hv,fun r hr=>?_,hhi⟩ (by simp only;omega) rfl rfl (Nat.le_refl _) ?_ ?_
   ·have:=hst r hr;omega
   ·(first | exact vT | refine vS ?_)
    try omega
   ·(first | exact vT | refine vS ?_)
  ·have dc:decide (Zl1 (y.1:Int) (x.1:Int)<0)=false:=by
    unfold Zl1;rw [if_neg (by omega)];split <;> rfl
   repeat (first | refine xR @dc ?_ | exact xU @dc)
   refine At.of (u,w) ⟨by simp only;omega,by simp only;omega,hlo,fun r hr=>?_⟩ (by simp only;omega) rfl rfl (Nat.le_refl _) ?_ ?_
   ·have:=hsd r hr;omega
   ·(first | exact vT | refine vS ?_)
    try omega
   ·(first | exact vT | refine vS ?_)
 ·simp only [decide_eq_false_iff_not] at h
  obtain rfl:u=v:=by omega
  obtain ⟨Yl,hYl⟩:∃ Yl,Yl=Y.take u:=⟨_,rfl⟩
  obtain ⟨Yr,hYr⟩:∃ Yr,Yr=Y.drop u:=⟨_,rfl⟩
  have hYY:Y=Yl++Yr:=by rw [hYl,hYr,List.take_append_drop]
  have hYll:Yl.length=u:=by rw [hYl,List.length_take];omega
  have hfin:Zas (x::Y)=Yl++x::Yr:=by
   rw [hYY] at hY ⊢
   exact Zyi hY (hYl ▸ hlo) (hYr ▸ hhi)
  have hii:(i:Int)-1=((a+u:Nat):Int):=by omega
  obtain ⟨e,he⟩:∃ e,e=a+u:=⟨_,rfl⟩
  rw [←he] at hii
  have hWl:W=Pf++(x::(Yl++(Yr++Tl))):=by rw [hW,hYY];simp
  repeat (first | refine xS ?_ | exact xT)
  refine SWp.loop (α:=List Bt × List Bt) (fun p=>mk 220 1 [(0,.own 1000 0 (some 2) 0 N),(1,int a),(2,int m),(3,int b),(4,Zdi),(10,int i),(13,int (a+p.1.length:Nat))] [(1000,0,.row false (bC (Pf++(p.1++(x::(p.2++(Yr++Tl)))))))])
   (fun p=>p.1++p.2=Yl) (fun p=>p.2.length) ([],Yl) rfl (Zau rfl ?_ ?_ ?_) ?_
  ·exact Nat.le_refl _
  iterate 2 (case _=>(first | exact vU @hWl | refine vR @hWl ?_))
  rintro ⟨A,B⟩ hAB -
  simp only at hAB
  have hABl:A.length+B.length=u:=by rw [←hYll,←hAB];simp
  obtain ⟨p,hp⟩:∃ p,p=a+A.length:=⟨_,rfl⟩
  have hUl:(Pf++A).length=p:=by rw [hp,ha];simp
  cases B with
  | nil =>
   have hA:A=Yl:=by simpa using hAB
   have d1:decide ((p:Int)<(e:Int))=false:=decide_eq_false (by simp at hABl;omega)
   rw [←hp]
   repeat (first | refine xR (ja4 @hii @d1 @ZaB @hK) ?_ | exact xU (ja4 @hii @d1 @ZaB @hK))
   rw [hA,hfin];simp
  | cons y B =>
   simp only [List.length_cons] at hABl
   have d1:decide ((p:Int)<(e:Int))=true:=decide_eq_true (by omega)
   obtain ⟨V,hV⟩:∃ V,V=(Pf++A)++x::y::(B++(Yr++Tl)):=⟨_,rfl⟩
   have hV':Pf++(A++(x::((y::B)++(Yr++Tl))))=V:=by rw [hV];simp
   have hVl:V.length=N:=by
    rw [hV,hlen,hYY];simp only [List.length_append,List.length_cons];omega
   obtain ⟨q,hq⟩:∃ q,q=p+1:=⟨_,rfl⟩
   have epq:(p:Int)+1=(q:Int):=by omega
   have hpl:p<V.length:=by
    have:u≤Y.length:=hv
    omega
   have hql:q<V.length:=by
    have:u≤Y.length:=hv
    omega
   have e1:=Zc7 hpl
   have e2:=Zc7 hql
   have g1:V.getD p (0,[])=x:=by rw [hV,←hUl];exact ZjA
   have g2:V.getD q (0,[])=y:=by rw [hV,hq,←hUl];exact ZoU
   rw [g1] at e1
   rw [g2] at e2
   have e3:(bC V).length=N*2:=by rw [Za2,hVl]
   have s1:=ZgN (c:=y.1) (s:=y.2) hpl
   have e4:(bC (V.set p (y.1,y.2))).length=N*2:=by rw [Za2,List.length_set,hVl]
   have s2:=ZgN (l:=V.set p (y.1,y.2)) (c:=x.1) (s:=x.2) (i:=q) (by rw [List.length_set];exact hql)
   have hsw:(V.set p (y.1,y.2)).set q (x.1,x.2)=Pf++(A++(y::(x::(B++(Yr++Tl))))):=by
    rw [hV,hq,←hUl,ZGo];simp
   rw [hsw] at s2
   have hpN:p*2+2≤N*2:=by omega
   have hqN:q*2+2≤N*2:=by omega
   rw [←hp,hV']
   clear hV' hsw
   repeat (first | refine xR (ja8 @hii @d1 @epq @e1 @e2 @e3 @s1 (ja2 @e4 @s2)) ?_ | exact xU (ja8 @hii @d1 @epq @e1 @e2 @e3 @s1 (ja2 @e4 @s2)))
   refine At.of (A++[y],B) (by rw [←hAB];simp) (by simp) rfl rfl (Nat.le_refl _) ?_ ?_
   ·(first | exact vT | refine vS ?_)
    try omega
   ·(first | exact vT | refine vS ?_)
set_option maxRecDepth 100000 in
theorem Zjk [Tabs Tryz.prog] (Pf X Tl:List Bt) (y:Bt) (N a m b:Nat) (hN:N=(Pf++(X++(y::Tl))).length) (hl:N≤100000) (ha:a=Pf.length) (hm:m=Pf.length+X.length) (hb:b=m+1) (hX2:2≤X.length) (hX:Srt X) (K:Nat) (hK:1≤K) :
  HCon Tryz.prog Zar [.own 1000 0 (some 2) 0 N,int a,int m,int b,Zdi] [.row false (bC (Pf++(X++(y::Tl))))] (.tup []) [(1000,0,.row false (bC (Pf++(Zas (X++[y])++Tl))))] K:=by
 refine HCon.of' mix Tryz.func161 rfl Tryz.ntmps161 Za8 Za9 (by simp) (by simp only [AV.gl.glL,AV.gl,int,Zdi,and_true];omega) ZsV ?_
 unfold ZaH
 have hlen:N=Pf.length+(X.length+Tl.length)+1:=by rw [hN];simp;omega
 have d0:decide ((m:Int)-(a:Int)=1)=false:=decide_eq_false (by omega)
 have d00:decide ((b:Int)-(m:Int)=1)=true:=decide_eq_true (by omega)
 obtain ⟨W,hW⟩:∃ W,W=Pf++(X++(y::Tl)):=⟨_,rfl⟩
 rw [←hW] at hN
 rw [←hW]
 repeat (first | refine xR (ja2 @d0 @d00) ?_ | exact xU (ja2 @d0 @d00))
 refine SWp.loop (α:=Nat × Nat) (fun p=>mk 220 1 [(0,.own 1000 0 (some 2) 0 N),(1,int a),(2,int m),(3,int b),(4,Zdi),(14,int (a+p.1:Nat)),(15,int (a+p.2:Nat))] [(1000,0,.row false (bC W))])
  (fun p=>p.1≤p.2∧p.2≤X.length∧(∀ x∈X.take p.1,x.1≤y.1)∧(∀ x∈X.drop p.2,y.1<x.1)) (fun p=>p.2-p.1) (0,X.length) ⟨Nat.zero_le _,Nat.le_refl _,by simp,by simp⟩ (Zau rfl ?_ ?_ ?_) ?_
 ·exact Nat.le_refl _
 iterate 2 (case _=>(first | exact vU (ja2 @hm @ha) | refine vR (ja2 @hm @ha) ?_))
 rintro ⟨u,v⟩ ⟨huv,hv,hlo,hhi⟩ -
 simp only at huv hv hlo hhi
 obtain ⟨i,hi⟩:∃ i,i=a+u:=⟨_,rfl⟩
 obtain ⟨j,hj⟩:∃ j,j=a+v:=⟨_,rfl⟩
 rw [←hi,←hj]
 repeat (first | refine xS ?_ | exact xT)
 refine SWp.cond rfl (fun h=>?_) (fun h=>?_)
 ·simp only [decide_eq_true_eq] at h
  obtain ⟨q,hq⟩:∃ q,q=(i+j) / 2:=⟨_,rfl⟩
  obtain ⟨w,hw⟩:∃ w,w=q-a:=⟨_,rfl⟩
  have hmid:IntKind.i64.wrap ((IntKind.u64.wrap ((i:Int)+(j:Int))).fdiv (2^1))=(q:Int):=by
   rw [Zbi (by omega) (by omega),show ((2:Int)^1)=2 from rfl,Int.fdiv_eq_ediv_of_nonneg _ (by omega),ZbI (by omega) (by omega)]
   omega
  have hwX:w<X.length:=by omega
  have hql:q<W.length:=by omega
  have hml:m<W.length:=by omega
  have e1:=Zc7 hql
  have e2:=Zc7 hml
  have g1:W.getD q (0,[])=X.getD w (0,[]):=by
   rw [hW]
   simp only [List.getD]
   rw [List.getElem?_append_right (by omega),show q-Pf.length=w from by omega,List.getElem?_append_left hwX]
  have g2:W.getD m (0,[])=y:=by
   rw [hW,←List.append_assoc,show m=(Pf++X).length from by simp;omega];exact ZjA
  obtain ⟨x,hx⟩:∃ x,x=X.getD w (0,[]):=⟨_,rfl⟩
  rw [g1,←hx] at e1
  rw [g2] at e2
  have e3:(bC W).length=N*2:=by rw [Za2,hN]
  have hmN:m*2+2≤N*2:=by omega
  have hqN:q*2+2≤N*2:=by omega
  have hst:=ZjB hX hwX
  have hsd:=ZjC hX hwX
  rw [←hx] at hst hsd
  repeat (first | refine xR (ja4 @hmid @e1 @e2 @e3) ?_ | exact xU (ja4 @hmid @e1 @e2 @e3))
  refine Zsa Zbp rfl (by decide) ?_
  refine Zay _ (.inl ⟨by simp only [AV.free,AV.free.freeL,nA,Zab,Bool.and_self],Zdg (y.1:Int) (x.1:Int) _ _ (by simp only [AV.free,Zab]) (by simp only [AV.free,Zab])⟩) ?_
  by_cases c:y.1<x.1
  ·have dc:decide (Zl1 (y.1:Int) (x.1:Int)<0)=true:=by
    unfold Zl1;rw [if_pos (by omega)];rfl
   repeat (first | refine xR @dc ?_ | exact xU @dc)
   refine At.of (u,w) ⟨by simp only;omega,by simp only;omega,hlo,fun r hr=>?_⟩ (by simp only;omega) rfl rfl (Nat.le_refl _) ?_ ?_
   ·have:=hsd r hr;omega
   ·(first | exact vT | refine vS ?_)
    try omega
   ·(first | exact vT | refine vS ?_)
  ·have dc:decide (Zl1 (y.1:Int) (x.1:Int)<0)=false:=by
    unfold Zl1;rw [if_neg (by omega)];split <;> rfl
   repeat (first | refine xR @dc ?_ | exact xU @dc)
   refine At.of (w+1,v) ⟨by simp only;omega,hv,fun r hr=>?_,hhi⟩ (by simp only;omega) rfl rfl (Nat.le_refl _) ?_ ?_
   ·have:=hst r hr;omega
   ·(first | exact vT | refine vS ?_)
    try omega
   ·(first | exact vT | refine vS ?_)
 ·simp only [decide_eq_false_iff_not] at h
  obtain rfl:u=v:=by omega
  obtain ⟨Xl,hXl⟩:∃ Xl,Xl=X.take u:=⟨_,rfl⟩
  obtain ⟨Xr,hXr⟩:∃ Xr,Xr=X.drop u:=⟨_,rfl⟩
  have hXX:X=Xl++Xr:=by rw [hXl,hXr,List.take_append_drop]
  have hXll:Xl.length=u:=by rw [hXl,List.length_take];omega
  have hXrl:Xr.length+u=X.length:=by rw [hXr,List.length_drop];omega
  have hfin:Zas (X++[y])=Xl++y::Xr:=by
   rw [hXX] at hX ⊢
   exact ZuR hX (hXl ▸ hlo) (hXr ▸ hhi)
  have hWl:W=Pf++(Xl++(Xr++(y::Tl))):=by rw [hW,hXX];simp
  have him:(i:Int)+(Xr.length:Int)=(m:Int):=by omega
  repeat (first | refine xS ?_ | exact xT)
  refine SWp.loop (α:=List Bt × List Bt) (fun p=>mk 220 1 [(0,.own 1000 0 (some 2) 0 N),(1,int a),(2,int m),(3,int b),(4,Zdi),(14,int i),(17,int (i+p.1.length:Nat))] [(1000,0,.row false (bC (Pf++(Xl++(p.1++(y::(p.2++Tl)))))))])
   (fun p=>p.1++p.2=Xr) (fun p=>p.1.length) (Xr,[]) (by simp) (Zau rfl ?_ ?_ ?_) ?_
  ·exact Nat.le_refl _
  iterate 2 (case _=>(first | exact vU (ja2 @him @hWl) | refine vR (ja2 @him @hWl) ?_))
  rintro ⟨A,B⟩ hAB -
  simp only at hAB
  have hABl:A.length+B.length=Xr.length:=by rw [←hAB];simp
  rcases List.eq_nil_or_concat A with rfl | ⟨A,z,rfl⟩
  ·have hB:B=Xr:=by simpa using hAB
   have d1:decide ((i:Int)>(i:Int))=false:=decide_eq_false (by omega)
   repeat (first | refine xR (ja5 @List.length_nil.{0} @Nat.add_zero @d1 @ZaB @hK) ?_ | exact xU (ja5 @List.length_nil.{0} @Nat.add_zero @d1 @ZaB @hK))
   rw [hB,hfin];simp
  ·simp only [List.concat_eq_append] at hAB hABl ⊢
   simp only [List.length_append,List.length_cons,List.length_nil] at hABl
   obtain ⟨p,hp⟩:∃ p,p=i+A.length:=⟨_,rfl⟩
   obtain ⟨q,hq⟩:∃ q,q=i+(A++[z]).length:=⟨_,rfl⟩
   have hqp:q=p+1:=by rw [hq,hp];simp;omega
   have d1:decide ((q:Int)>(i:Int))=true:=decide_eq_true (by omega)
   obtain ⟨V,hV⟩:∃ V,V=(Pf++Xl++A)++z::y::(B++Tl):=⟨_,rfl⟩
   have hV':Pf++(Xl++((A++[z])++(y::(B++Tl))))=V:=by rw [hV];simp
   have hUl:(Pf++Xl++A).length=p:=by rw [hp,hi,ha];simp;omega
   have hVl:V.length=N:=by
    rw [hV,hlen];simp only [List.length_append,List.length_cons];omega
   have epq:(q:Int)-1=(p:Int):=by omega
   have hpl:p<V.length:=by omega
   have hql:q<V.length:=by omega
   have e1:=Zc7 hpl
   have e2:=Zc7 hql
   have g1:V.getD p (0,[])=z:=by rw [hV,←hUl];exact ZjA
   have g2:V.getD q (0,[])=y:=by rw [hV,hqp,←hUl];exact ZoU
   rw [g1] at e1
   rw [g2] at e2
   have e3:(bC V).length=N*2:=by rw [Za2,hVl]
   have s1:=ZgN (c:=z.1) (s:=z.2) hql
   have e4:(bC (V.set q (z.1,z.2))).length=N*2:=by rw [Za2,List.length_set,hVl]
   have s2:=ZgN (l:=V.set q (z.1,z.2)) (c:=y.1) (s:=y.2) (i:=p) (by rw [List.length_set];exact hpl)
   have hsw:(V.set q (z.1,z.2)).set p (y.1,y.2)=Pf++(Xl++(A++(y::(z::(B++Tl))))):=by
    rw [hV,hqp,←hUl,ZvU];simp
   rw [hsw] at s2
   have hpN:p*2+2≤N*2:=by omega
   have hqN:q*2+2≤N*2:=by omega
   rw [←hq,hV']
   clear hV' hsw
   repeat (first | refine xR (ja8 @d1 @epq @e1 @e2 @e3 @s1 @e4 @s2) ?_ | exact xU (ja8 @d1 @epq @e1 @e2 @e3 @s1 @e4 @s2))
   refine At.of (A,z::B) (by rw [←hAB];simp) (by simp) rfl rfl (Nat.le_refl _) ?_ ?_
   ·(first | exact vT | refine vS ?_)
    try omega
   ·(first | exact vT | refine vS ?_)
end Go.Proofs.YtbcncdpaigljeaaGreatDoor.Aw
