/- Parts of the proof of GzipUnpacks. -/
import Derived.Test.YtfplkgciebjehabGreatDoorQGzipUnpacksBE
import Derived.Test.YtfplkgciebjehabGreatDoorQGzipUnpacksBF
import Derived.Test.YtfplkgciebjehabGreatDoorQGzipUnpacksBD
namespace Go.Proofs.YtfplkgciebjehabGreatDoor.Aw
open Go
set_option linter.defProp false
set_option maxRecDepth 100000
set_option linter.unusedSimpArgs false
set_option linter.unusedVariables false
def Zd1 (l:List Nat) (k n:Nat):List Nat:=if n=0 then [] else (List.range k).filter fun s=>decide (l.getD s 0=n)
theorem ZeH {l:List Nat} {k n:Nat} (hn:n≠0):Zd1 l (k+1) n=if l.getD k 0=n then Zd1 l k n++[k] else Zd1 l k n:=by
 unfold Zd1
 rw [if_neg hn,if_neg hn,List.range_succ,List.filter_append]
 by_cases e:l.getD k 0=n
 ·rw [if_pos e,List.filter_cons,decide_eq_true e];rfl
 ·rw [if_neg e,List.filter_cons,decide_eq_false e];simp
theorem Zel {l:List Nat}:∀ {k n:Nat},k≤l.length→(Zd1 l k n).length=if n=0 then 0 else (l.take k).count n
 | 0,n,_=>by unfold Zd1;split <;> simp
 | k+1,n,h=>by
  have ih:=Zel (l:=l) (k:=k) (n:=n) zO
  by_cases hn:n=0
  ·subst hn;rfl
  ·rw [if_neg hn] at ih ⊢
   rw [ZeH hn,Zg8 zO]
   by_cases e:l.getD k 0=n
   ·rw [if_pos e,if_pos e.symm,List.length_append,ih];rfl
   ·rw [if_neg e,if_neg (fun h=>e h.symm),ih];rfl
theorem Zm1 {l:List Nat} {k n:Nat} (h:k≤l.length):(Zd1 l k n).length≤l.length:=by
 rw [Zel h]
 split
 ·omega
 ·exact Zhz
def trR (l:List Nat):List AV:=(r16 (fr l)).map nA++(List.range 16).map (fun n=>AV.sl (nl0 (Zd1 l l.length n).length) none ((Zd1 l l.length n).map nA))++[.sc (.int .i64 (Zas l:Nat))]
def trC (l:List Nat) (k:Nat) (gs:Nat→Nat):List AV:=(r16 (fr l)).map nA++Zsk 200 16 gs (fun n=>(Zd1 l k n).length)++[.sc (.int .i64 (Zas l:Nat))]
def trH (l:List Nat) (k:Nat) (gs:Nat→Nat):Hp:=fun i=>if i=18 then some (0,.row false (trC l k gs)) else if 200≤i∧i<216 then some (gs (i-200),.row (nl0 (Zd1 l k (i-200)).length) ((Zd1 l k (i-200)).map nA)) else none
theorem Zwq {l:List Nat} {k:Nat} {gs:Nat→Nat}:trH l k gs 18=some (0,.row false (trC l k gs)):=by simp [trH]
theorem Zrv {l:List Nat} {k x:Nat} {gs:Nat→Nat} (h:x<16):trH l k gs (200+x)=some (gs x,.row (nl0 (Zd1 l k x).length) ((Zd1 l k x).map nA)):=by
 simp only [trH]
 rw [if_neg zO,if_pos zO,show 200+x-200=x by omega]
theorem Zk1 {l:List Nat} {k:Nat} {gs:Nat→Nat}:(trC l k gs).length=33:=by simp [trC,Zau,Zbc]
theorem Zwr {l:List Nat} {k x:Nat} {gs:Nat→Nat} (h:x<16):(trC l k gs).getD (16+x) .junk = .own (200+x) (gs x) none 0 (Zd1 l k x).length:=by
 unfold trC
 simp only [List.getD]
 rw [List.getElem?_append_left (by simp [Zau,Zbc];omega),List.getElem?_append_right (by simp [Zau])]
 simp only [List.length_map,Zau,show 16+x-16=x by omega]
 rw [Zos h];rfl
theorem ZA1 {l:List Nat} {k x c:Nat} {gs:Nat→Nat} (hx:x<16) (hx0:x≠0) (hk:l.getD k 0=x) :
  (trC l k gs).take (16+x)++AV.own (200+x) c none 0 ((Zd1 l k x).length+1)::(trC l k gs).drop (16+x+1)=trC l (k+1) (fun j=>if j=x then c else gs j):=by
 have h:=List.set_eq_take_append_cons_drop (l:=trC l k gs) (i:=16+x) (a:=AV.own (200+x) c none 0 ((Zd1 l k x).length+1))
 rw [if_pos (by rw [Zk1];omega)] at h
 rw [←h]
 unfold trC
 rw [List.set_append_left _ _ (by simp [Zau,Zbc];omega),List.set_append_right _ _ (by simp [Zau])]
 congr 2
 simp only [List.length_map,Zau,show 16+x-16=x by omega]
 apply List.ext_getElem?
 intro i
 rw [List.getElem?_set,Zbc]
 by_cases hi:i<16
 ·rw [Zos hi,Zos hi]
  by_cases e:x=i
  ·subst e
   rw [if_pos rfl,if_pos hi,if_pos rfl,ZeH hx0,if_pos hk,List.length_append];rfl
  ·rw [if_neg e,if_neg (fun h=>e h.symm)]
   by_cases i0:i=0
   ·subst i0;rfl
   ·rw [ZeH i0,if_neg zO]
 ·rw [List.getElem?_eq_none (by rw [Zbc];omega),List.getElem?_eq_none (by rw [Zbc];omega),if_neg zO]
theorem Zws {l:List Nat} {k n:Nat} (hk:l.getD k 0=0):Zd1 l (k+1) n=Zd1 l k n:=by
 by_cases h:n=0
 ·subst h;rfl
 ·rw [ZeH h,if_neg zO]
theorem ZyM {l:List Nat} {k:Nat} {gs:Nat→Nat} (hk:l.getD k 0=0):trH l (k+1) gs=trH l k gs:=by
 funext i
 simp only [trH,trC,Zws hk]
theorem ZyN {l:List Nat} {k x c:Nat} {gs:Nat→Nat} (hx:x<16) (hx0:x≠0) (hk:l.getD k 0=x) {cs:List AV} (hcs:cs=trC l (k+1) (fun j=>if j=x then c else gs j)) :
  Za8 (Za8 (trH l k gs) (200+x) (some (c,.row false ((Zd1 l k x).map nA++[.sc (.int .i64 (k:Int))])))) 18 (some (0,.row false cs))=trH l (k+1) (fun j=>if j=x then c else gs j):=by
 funext i
 simp only [Za8,trH]
 by_cases e1:i=18
 ·simp only [if_pos e1,hcs]
 ·simp only [if_neg e1]
  by_cases e2:i=200+x
  ·rw [if_pos e2,if_pos zO,show i-200=x by omega,if_pos rfl,ZeH hx0,if_pos hk]
   simp only [List.map_append,List.map_cons,List.map_nil,List.length_append,List.length_singleton,Zaw]
   rfl
  ·rw [if_neg e2]
   by_cases e3:200≤i∧i<216
   ·rw [if_pos e3,if_pos e3,if_neg zO]
    by_cases i0:i-200=0
    ·rw [i0];rfl
    ·rw [ZeH i0,if_neg zO]
   ·rw [if_neg e3,if_neg e3]
theorem Zsl {st:ASt} {l:List (Nat × AV)} {H:Hp} {gc N:Nat} (hN:N=st.N) (hgc:st.gc≤gc) (hl:AllTm st.tm l) (hh:st.hp=H):Le st ⟨Zse l,H,gc,N⟩:=by
 have:=Zal (st:=st) (gc:=gc) (h:=[]) hN hgc hl trivial
 exact ⟨this.tm,fun id=>.inl (by rw [←hh]),hgc,hN⟩
theorem Zm2 [Tabs Tryz.prog] (nl:Bool) (li:List Int) (hc:chk li=0) (l:List Nat) (hli:l=li.map Int.toNat):Con Tryz.prog ZbB [.sl nl none (li.map int)] (.tup [.fp (.agg (trR l)) 0,int 0]):=by
 obtain ⟨hlen,ha,hK⟩:=Zsj hc
 obtain ⟨hm,h15⟩:=ZnE ha
 rw [←hli] at hm h15 hK
 have hl:l.length≤320:=by rw [hli,List.length_map];exact hlen
 have hchk:=Zlo nl li zO
 rw [hm,hc] at hchk
 rw [hm]
 clear hm ha hc
 have hfT:AV.free.freeL (trR l)=true:=by
  unfold trR
  rw [Zhm,Zhm,Zaj]
  have:AV.free.freeL ((List.range 16).map (fun n=>AV.sl (nl0 (Zd1 l l.length n).length) none ((Zd1 l l.length n).map nA)))=true:=ZcZ.2 fun x hx=>by
   obtain ⟨n,_,rfl⟩:=List.mem_map.1 hx
   simp only [AV.free,Zaj]
  rw [this];rfl
 refine Con.of' mix Tryz.func89 rfl Tryz.ntmps89 ZmY ZmZ zB (by simp only [AV.free,AV.free.freeL,Zaj,Bool.and_self]) (by simp only [AV.free,AV.free.freeL,hfT,int,Bool.and_self]) ?_
 unfold Zi5
 have hf:AV.free.freeL [.sl nl none (l.map nA)]=true:=by simp only [AV.free,AV.free.freeL,Zaj,Bool.and_self]
 have hfr:=ZlI nl l hl h15
 have htk:=Zik nl l zO h15
 obtain ⟨F,hF⟩:∃ F,F=r16 (fr l):=⟨_,rfl⟩
 have hFl:F.length=16:=by rw [hF,Zau]
 have hFm:(F.map nA).length=16:=by rw [List.length_map,hFl]
 rw [←hF] at hfr
 obtain ⟨K,hKd⟩:∃ K,K=Zas l:=⟨_,rfl⟩
 rw [←hKd] at htk
 have ht1:∀ (x y:AV) (r:List AV),List.take 32 (F.map nA++(x::y::r))=F.map nA++List.take 16 (x::y::r):=fun x y r=>by rw [List.take_append,hFm,List.take_of_length_le zO]
 have ht2:∀ (x y:AV) (r:List AV),List.drop 33 (F.map nA++(x::y::r))=List.drop 17 (x::y::r):=fun x y r=>by rw [List.drop_append,hFm,List.drop_of_length_le zO];rfl
 repeat (first|refine xS ?_|exact xT)
 refine Zaq _ (.inl ⟨hf,hchk⟩) ?_
 repeat (first|refine xS ?_|exact xT)
 refine Zaq _ (.inl ⟨hf,hfr⟩) ?_
 repeat (first|refine xS ?_|exact xT)
 refine Zaq _ (.inl ⟨hf,htk⟩) ?_
 repeat (first|refine xR (ja3 @hFl @ht1 @ht2) ?_|exact xU (ja3 @hFl @ht1 @ht2))
 refine SWp.le (Zal (N:=44) (gc:=1) (l:=[(5,.op 18 0 0),(19,.sl nl none (l.map nA)),(20,int l.length),(21,int 0)]) (h:=[(18,0,.row false (F.map nA++List.replicate 16 (AV.sc (.slice none 0 0))++[.sc (.int .i64 (K:Int))]))]) rfl ?_ ?_ ?_) ?_
 iterate 2 (case _=>(first|exact vT|refine vS ?_))
 ·(first|exact vT|refine vS ?_)
  rfl
 refine SWp.adoptN 18 0 200 16 (nl:=false) (pre:=F.map nA) (post:=[.sc (.int .i64 (K:Int))]) zO vT ?_
 refine SWp.loop (α:=Nat × (Nat→Nat) × Nat) (fun x=>⟨Zse [(5,.op 18 0 0),(19,.sl nl none (l.map nA)),(20,int l.length),(21,int x.1)],trH l x.1 x.2.1,x.2.2,44⟩)
  (fun x=>x.1≤l.length) (fun x=>l.length-x.1) (0,fun j=>1+j,17) (Nat.zero_le _) (Zsl rfl ?_ ?_ ?_) ?_
 ·exact Nat.le_refl _
 ·(first|exact vT|refine vS ?_)
 ·funext i
  simp only [adH,trH,trC,←hF,←hKd,ZB2,ZcR]
  by_cases e1:i=18
  ·rw [if_pos e1,if_pos e1]
   simp [Zsk,Zd1]
  ·simp only [if_neg e1]
   by_cases e2:200≤i∧i<216
   ·rw [if_pos zO,if_pos e2]
    simp [Zd1,nl0]
   ·rw [if_neg zO,if_neg e2]
 rintro ⟨k,gs,c⟩ hk -
 simp only at hk
 repeat (first|refine xS ?_|exact xT)
 refine SWp.cond rfl (fun h=>?_) (fun h=>?_)
 ·simp only [decide_eq_true_eq] at h
  have hkl:k<l.length:=zO
  have hx15:l.getD k 0≤15:=by
   have:l.getD k 0=l[k]:=by simp [List.getD,List.getElem?_eq_getElem hkl]
   rw [this];exact h15 _ (List.getElem_mem hkl)
  obtain ⟨x,hx⟩:∃ x,x=l.getD k 0:=⟨_,rfl⟩
  rw [←hx] at hx15
  by_cases c0:x=0
  ·subst c0
   repeat (first|refine xR (ja2 iR hx.symm) ?_|exact xU (ja2 iR hx.symm))
   refine ⟨(k+1,gs,c),by simp only;omega,by simp only;omega,Zsl rfl (Nat.le_refl _) ?_ ?_⟩
   ·(first|exact vT|refine vS ?_)
   ·exact (ZyM hx.symm).symm
  ·have d0:decide ((0:Int)<(x:Int))=true:=decide_eq_true zO
   have hsl:=Zm1 (l:=l) (k:=k) (n:=x) hk
   have hcs:=ZA1 (c:=c) (gs:=gs) zO c0 hx.symm
   repeat (first|refine xR (ja8 iR hx.symm @d0 @Zwq @Zrv @Zwr @Zk1 @Nat.mul_one) ?_|exact xU (ja8 iR hx.symm @d0 @Zwq @Zrv @Zwr @Zk1 @Nat.mul_one))
   refine ⟨(k+1,fun j=>if j=x then c else gs j,c+1),by simp only;omega,by simp only;omega,Zsl rfl (Nat.le_refl _) ?_ ?_⟩
   ·(first|exact vT|refine vS ?_)
   ·exact ZyN zO c0 hx.symm hcs
 ·simp only [decide_eq_false_iff_not] at h
  obtain rfl:k=l.length:=zO
  refine SWp.le (st':=⟨Zse [(5,.op 18 0 0)],trH l l.length gs,c,44⟩) (Zsl rfl (Nat.le_refl _) ?_ rfl) ?_
  ·(first|exact vT|refine vS ?_)
  refine SWp.frzN 18 0 200 16 (nl:=false) (pre:=(r16 (fr l)).map nA) (post:=[.sc (.int .i64 (Zas l:Nat))]) (gs:=gs) (ls:=fun n=>nl0 (Zd1 l l.length n).length) (xs:=fun n=>(Zd1 l l.length n).map nA) zO ?_ ?_ (fun _ _=>Zaj) Zaj rfl ?_ ?_
  ·rw [Zwq]
   simp only [trC,Zsk,ZBG,Nat.not_lt_zero,if_false,List.length_map]
  ·intro i hi
   exact Zrv hi
  ·intro t i hi
   by_cases e:t=5
   ·subst e
    show fzo _ _ _ _ (.op 18 0 0) = .op 18 0 0
    rw [Zzu,if_neg zO]
   ·have:Zse [(5,AV.op 18 0 0)] t = .junk:=by simp only [Zse];rw [if_neg e]
    rw [this];rfl
  have hm:(r16 (fr l)).map nA++ZBG 200 16 16 gs (fun n=>nl0 (Zd1 l l.length n).length) (fun n=>(Zd1 l l.length n).map nA)++[.sc (.int .i64 (Zas l:Nat))]=trR l:=by
   unfold trR
   have:ZBG 200 16 16 gs (fun n=>nl0 (Zd1 l l.length n).length) (fun n=>(Zd1 l l.length n).map nA)=(List.range 16).map (fun n=>AV.sl (nl0 (Zd1 l l.length n).length) none ((Zd1 l l.length n).map nA)):=List.map_congr_left fun i hi=>by rw [if_pos (List.mem_range.1 hi)]
   rw [this]
  have hH:Zwp 18 0 200 16 16 gs (fun n=>nl0 (Zd1 l l.length n).length) (fun n=>(Zd1 l l.length n).map nA) false ((r16 (fr l)).map nA) [.sc (.int .i64 (Zas l:Nat))] 18=some (0,.row false (trR l)):=by
   unfold Zwp;rw [if_pos rfl,hm]
  refine SWp.le (Zal (N:=44) (gc:=c) (l:=[(5,.op 18 0 0)]) (h:=[(18,0,.row false (trR l))]) rfl (Nat.le_refl _) ?_ ?_) ?_
  iterate 2 (case _=>(first|exact vU @hH|refine vR @hH ?_))
  repeat (first|refine xR @hfT ?_|exact xU @hfT)
  all_goals trace_state
theorem Zil {l:List Nat} {n:Nat}:(Zd1 l l.length n).length=cn l n:=by
 rw [Zel (Nat.le_refl _),List.take_length];rfl
theorem Zfj {l:List Nat}:(trR l).length=33:=by simp [trR,Zau]
theorem ZCJ {l:List Nat} {n:Nat} (h:n<16):(trR l).getD n .junk = .sc (.int .i64 ((fr l n:Nat):Int)):=by
 unfold trR
 rw [List.append_assoc]
 simp only [List.getD]
 rw [List.getElem?_append_left (by simp [Zau];exact h)]
 simp [r16,h,nA]
theorem ZA2 {l:List Nat} {n:Nat} (h:n<16):(trR l).getD (16+n) .junk = .sl (nl0 (cn l n)) none ((Zd1 l l.length n).map nA):=by
 unfold trR
 simp only [List.getD]
 rw [List.getElem?_append_left (by simp [Zau];omega),List.getElem?_append_right (by simp [Zau])]
 simp [Zau,h,Zil]
theorem Zsm {l:List Nat}:(trR l).getD 32 .junk = .sc (.int .i64 ((Zas l:Nat):Int)):=by
 unfold trR
 simp only [List.getD]
 rw [List.getElem?_append_right (by simp [Zau])]
 simp [Zau]
theorem ZbA {l:List Nat}:AV.free.freeL (trR l)=true:=by
 unfold trR
 rw [Zhm,Zhm,Zaj]
 have:AV.free.freeL ((List.range 16).map (fun n=>AV.sl (nl0 (Zd1 l l.length n).length) none ((Zd1 l l.length n).map nA)))=true:=ZcZ.2 fun x hx=>by
  obtain ⟨n,_,rfl⟩:=List.mem_map.1 hx
  simp only [AV.free,Zaj]
 rw [this];rfl
theorem Zot [Tabs Tryz.prog] (l:List Nat) (hK:Zas l≤32768) (v n:Nat) (hv:v<65536) (hn:n≤15):Con Tryz.prog Zgi [.fp (.agg (trR l)) 0,.sc (.int .i64 (v:Int)),.sc (.int .i64 (n:Int))] (boo (decide (v*2^(15-n)<Zas l))):=by
 refine Con.of' mix Tryz.func127 rfl Tryz.ntmps127 Zka Zkb zB (by simp only [AV.free,AV.free.freeL,ZbA,Bool.and_self]) rfl ?_
 unfold Zgt
 have e1:(15:Int)-(n:Int)=((15-n:Nat):Int):=zO
 have hp:2^(15-n)≤32768:=ZaI (n:=15-n) (m:=15) zO
 obtain ⟨j,hj⟩:∃ j,j=15-n:=⟨_,rfl⟩
 rw [←hj] at hp e1 ⊢
 have hj15:j≤15:=zO
 have hz:v*2^j≤65536*32768:=Nat.mul_le_mul zO hp
 obtain ⟨z,hzz⟩:∃ z,z=v*2^j:=⟨_,rfl⟩
 rw [←hzz] at hz ⊢
 have hd:decide ((z:Int)<((Zas l:Nat):Int))=decide (z<Zas l):=decide_eq_decide.2 zO
 repeat (first|refine xR (ja5 @e1 hzz.symm @Zfj @Zsm @hd) ?_|exact xU (ja5 @e1 hzz.symm @Zfj @Zsm @hd))
def nxt (l B:List Nat):Nat→Nat→Nat→Nat × Nat × Nat
 | 0,n,_=>(0,n,3)
 | f+1,n,v =>
  if B.length≤n then (0,n,2) else
  if Zas l≤(2*v+B.getD n 0)*2^(15-(n+1)) then (0,n+1,3) else
  if 2*v+B.getD n 0-fr l (n+1)<cn l (n+1) then ((Zd1 l l.length (n+1)).getD (2*v+B.getD n 0-fr l (n+1)) 0,n+1,0) else
  nxt l B f (n+1) (2*v+B.getD n 0)
def BG8:=ja2 @rdR.eq_1 iR
set_option maxHeartbeats 1000000 in
theorem ZjC [Tabs Tryz.prog] (l:List Nat) (hl:l.length≤320) (hK:Zas l≤32768) (nl:Bool) (b:List UInt8) (hb:b.length≤1000000) (i:Nat) (hi:i≤8*b.length) (r:Nat × Nat × Nat) (hr:nxt l ((Zae b).drop i) 15 0 0=r) :
  HCon Tryz.prog Zdb [.fp (.agg (trR l)) 0,.op 1000 0 0] [.row false (rdR nl b i)] (.tup [.sc (.int .i64 (r.1:Int)),.sc (.int .i64 (r.2.2:Int))]) [(1000,0,.row false (rdR nl b (i+r.2.1)))] 100:=by
 refine HCon.of' mix Tryz.func90 rfl Tryz.ntmps90 ZlC ZlD zB (by simp only [AV.gl.glL,AV.gl,and_true];exact ⟨Zan _ _ ZbA,by omega⟩) Zcw ?_
 unfold ZhN
 repeat (first|refine xS ?_|exact xT)
 refine SWp.loop (α:=Nat × Nat) (fun x=>mk 55 (1+3*x.1) [(0,.fp (.agg (trR l)) 0),(1,.op 1000 0 0),(6,int (x.2:Nat)),(10,int x.1)] [(1000,0,.row false (rdR nl b (i+x.1)))])
  (fun x=>x.1≤15∧i+x.1≤8*b.length∧x.2<2^x.1∧fr l (x.1+1)≤2*x.2∧nxt l ((Zae b).drop i) (15-x.1) x.1 x.2=r) (fun x=>15-x.1) (0,0) ⟨Nat.zero_le _,hi,by decide,by simp [fr,cn],hr⟩ (Zal rfl ?_ ?_ ?_) ?_
 ·exact Nat.le_refl _
 iterate 2 (case _=>(first|exact vT|refine vS ?_))
 rintro ⟨n,v⟩ ⟨hn,hin,hv,hF,hx⟩ -
 simp only at hn hin hv hF hx
 repeat (first|refine xS ?_|exact xT)
 refine SWp.cond rfl (fun h=>?_) (fun h=>?_)
 ·simp only [decide_eq_true_eq] at h
  have hn15:n<15:=zO
  obtain ⟨f,hf⟩:∃ f,15-n=f+1:=⟨14-n,by omega⟩
  have hBl:((Zae b).drop i).length=8*b.length-i:=by rw [List.length_drop,Zad]
  rw [hf,nxt,hBl] at hx
  have hleft:=Zf0 nl b hb (i+n) hin
  by_cases c0:8*b.length-i≤n
  ·rw [if_pos c0] at hx
   have d0:decide (((8*b.length-(i+n):Nat):Int)=0)=true:=decide_eq_true zO
   subst hx
   repeat (first|refine xS ?_|exact xT)
   refine Zab [(1000,0)] 2000 hleft zB zB ?_ ?_ ?_
   iterate 2 (case _=>(first|exact vU @rdR.eq_1|refine vR @rdR.eq_1 ?_))
   repeat (first|refine xR (ja3 @d0 @rdR.eq_1 iR) ?_|exact xU (ja3 @d0 @rdR.eq_1 iR))
   omega
  ·rw [if_neg c0] at hx
   have d0:decide (((8*b.length-(i+n):Nat):Int)=0)=false:=decide_eq_false zO
   have hbd:((Zae b).drop i).getD n 0=Zkh b (i+n):=by
    rw [←Zmz zO]
    simp [List.getD]
   rw [hbd] at hx
   have hbit:=ZnC nl b hb (i+n) zO
   have hbl:=Zop (l:=b) (i:=i+n)
   obtain ⟨x,hxx⟩:∃ x,x=Zkh b (i+n):=⟨_,rfl⟩
   rw [←hxx] at hx hbit hbl
   have hp:2^n≤16384:=ZaI (n:=n) (m:=14) zO
   have hp2:2^(n+1)=2*2^n:=by rw [Nat.pow_succ];omega
   obtain ⟨w,hw⟩:∃ w,w=2*v+x:=⟨_,rfl⟩
   have hor:v*2|||x=w:=by
    have:=Nat.two_pow_add_eq_or_of_lt (i:=1) (b:=x) zO v
    rw [Nat.pow_one] at this
    rw [hw,Nat.mul_comm v 2];omega
   have hwl:w<2^(n+1):=zO
   have hwl2:w<32768:=zO
   rw [←hw] at hx
   have hbeg:=Zot l hK w (n+1) zO zO
   have hfw:fr l (n+1)≤w:=zO
   have hfl:=ZAY hl (n:=n+1) zO
   repeat (first|refine xS ?_|exact xT)
   refine Zab [(1000,0)] 2000 hleft zB zB ?_ ?_ ?_
   iterate 2 (case _=>(first|exact vU @rdR.eq_1|refine vR @rdR.eq_1 ?_))
   repeat (first|refine xR (ja3 @d0 @rdR.eq_1 iR) ?_|exact xU (ja3 @d0 @rdR.eq_1 iR))
   refine Zab [(1000,0)] 3000 hbit zB zB ?_ ?_ ?_
   iterate 2 (case _=>(first|exact vU @rdR.eq_1|refine vR @rdR.eq_1 ?_))
   repeat (first|refine xR (ja4 @rdR.eq_1 iR @Nat.pow_one @hor) ?_|exact xU (ja4 @rdR.eq_1 iR @Nat.pow_one @hor))
   by_cases c1:Zas l≤w*2^(15-(n+1))
   ·rw [if_pos c1] at hx
    have dz:decide (w*2^(15-(n+1))<Zas l)=false:=decide_eq_false zO
    rw [dz] at hbeg
    subst hx
    refine Zaq _ (.inl ⟨by simp only [AV.free,AV.free.freeL,ZbA,Bool.and_self],hbeg⟩) ?_
    repeat (first|refine xR BG8 ?_|exact xU BG8)
    refine ⟨?_,by omega⟩
    rw [Int.add_assoc]
   ·rw [if_neg c1] at hx
    have dz:decide (w*2^(15-(n+1))<Zas l)=true:=decide_eq_true zO
    rw [dz] at hbeg
    obtain ⟨F,hFd⟩:∃ F,F=fr l (n+1):=⟨_,rfl⟩
    have hgF:=ZCJ (l:=l) (n:=n+1) zO
    have hgS:=ZA2 (l:=l) (n:=n+1) zO
    have hlS:=Zil (l:=l) (n:=n+1)
    have hcl:=ZAX (l:=l) (n:=n+1)
    rw [←hFd] at hgF hfw hfl hx
    have hsub:(w:Int)-(F:Int)=((w-F:Nat):Int):=zO
    obtain ⟨S,hS⟩:∃ S,S=Zd1 l l.length (n+1):=⟨_,rfl⟩
    obtain ⟨c,hc⟩:∃ c,c=cn l (n+1):=⟨_,rfl⟩
    rw [←hS] at hgS hlS hx
    rw [←hc] at hgS hlS hcl hx
    obtain ⟨j,hj⟩:∃ j,j=w-F:=⟨_,rfl⟩
    rw [←hj] at hsub hx
    refine Zaq _ (.inl ⟨by simp only [AV.free,AV.free.freeL,ZbA,Bool.and_self],hbeg⟩) ?_
    by_cases c2:j<c
    ·rw [if_pos c2] at hx
     have d2:decide ((j:Int)<(c:Int))=true:=decide_eq_true zO
     subst hx
     repeat (first|refine xR (ja8 @rdR.eq_1 iR @Zfj @hgF @hgS @hlS @hsub @d2) ?_|exact xU (ja8 @rdR.eq_1 iR @Zfj @hgF @hgS @hlS @hsub @d2))
     refine ⟨?_,by omega⟩
     rw [Int.add_assoc]
    ·rw [if_neg c2] at hx
     have d2:decide ((j:Int)<(c:Int))=false:=decide_eq_false zO
     have hnx:fr l (n+1+1)≤2*w:=by
      rw [fr,←hFd,←hc];omega
     repeat (first|refine xR (ja8 @rdR.eq_1 iR @Zfj @hgF @hgS @hlS @hsub @d2) ?_|exact xU (ja8 @rdR.eq_1 iR @Zfj @hgF @hgS @hlS @hsub @d2))
     refine At.of (n+1,w) ⟨by simp only;omega,by simp only;omega,hwl,hnx,by simp only;rw [show 15-(n+1)=f by omega];exact hx⟩ (by simp only;omega) rfl rfl ?_ ?_ ?_
     ·simp only;omega
     iterate 2 (case _=>(first|exact vU (ja2 @rdR.eq_1 @Int.add_assoc)|refine vR (ja2 @rdR.eq_1 @Int.add_assoc) ?_))
 ·simp only [decide_eq_false_iff_not] at h
  obtain rfl:n=15:=zO
  have hx:r=(0,15,3):=by rw [←hx];rfl
  subst hx
  repeat (first|refine xR BG8 ?_|exact xU BG8)
  all_goals trace_state
theorem Zac {ρ:Nat→Nat→Nat × Nat} {l:List Nat}:ren ρ (.fp (.agg (trR l)) 0) = .fp (.agg (trR l)) 0:=Ziu ρ _ (by simp only [AV.free,ZbA])
theorem Zha {l B:List Nat}:∀ (f n v:Nat),n≤B.length→(nxt l B f n v).2.1≤B.length∧((nxt l B f n v).2.2=0∨((nxt l B f n v).2.2=2∧(nxt l B f n v).2.1=B.length)∨(nxt l B f n v).2.2=3)
 | 0,n,v,h=>⟨h,.inr (.inr rfl)⟩
 | f+1,n,v,h=>by
  rw [nxt]
  split
  ·exact ⟨h,.inr (.inl ⟨rfl,by simp only;omega⟩)⟩
  ·split
   ·exact ⟨by simp only;omega,.inr (.inr rfl)⟩
   ·split
    ·exact ⟨by simp only;omega,.inl rfl⟩
    ·exact Zha f (n+1) _ zO
inductive BT (α:Type) where
 | ret (a:α):BT α
 | err (e:Nat):BT α
 | pos (k:Nat→BT α):BT α
 | bit (k:Nat→BT α):BT α
inductive BR (α:Type) where
 | ok (a:α) (i:Nat):BR α
 | no (e:Nat):BR α
def BR.bnd {α β:Type}:BR α→(α→Nat→BR β)→BR β
 | .ok a i,f=>f a i
 | .no e,_=>.no e
def BT.bnd {α β:Type}:BT α→(α→BT β)→BT β
 | .ret a,f=>f a
 | .err e,_=>.err e
 | .pos k,f=>.pos fun i=>(k i).bnd f
 | .bit k,f=>.bit fun x=>(k x).bnd f
def BT.run {α:Type} (B:List Nat):BT α→Nat→BR α
 | .ret a,i=>.ok a i
 | .err e,_=>.no e
 | .pos k,i=>(k i).run B i
 | .bit k,i=>if i<B.length then (k (B.getD i 0)).run B (i+1) else .no 2
theorem Zak {α β:Type} {B:List Nat} {f:α→BT β}:∀ {t:BT α} {i:Nat},(t.bnd f).run B i=(t.run B i).bnd fun a j=>(f a).run B j
 | .ret _,_=>rfl
 | .err _,_=>rfl
 | .pos k,i=>by simp only [BT.bnd,BT.run];exact Zak
 | .bit k,i=>by
  simp only [BT.bnd,BT.run]
  split
  ·exact Zak
  ·rfl
theorem Zhb {α:Type} {B:List Nat} {a:α} {j:Nat}:∀ {t:BT α} {i:Nat},t.run B i = .ok a j→i≤j∧(i≤B.length→j≤B.length)
 | .ret _,i,h=>by simp only [BT.run,BR.ok.injEq] at h;omega
 | .err _,_,h=>by simp [BT.run] at h
 | .pos k,i,h=>by simp only [BT.run] at h;exact Zhb h
 | .bit k,i,h=>by
  simp only [BT.run] at h
  split at h
  ·have:=Zhb h;exact ⟨by omega,fun _=>this.2 zO⟩
  ·cases h
def Zi6:Nat→BT Nat
 | 0=>.ret 0
 | n+1=>.bit fun x=>(Zi6 n).bnd fun y=>.ret (x+2*y)
theorem ZlT {B:List Nat}:∀ {n i:Nat},i≤B.length→(Zi6 n).run B i=if i+n≤B.length then .ok (Zfi ((B.drop i).take n)) (i+n) else .no 2
 | 0,i,h=>by rw [if_pos zO];rfl
 | n+1,i,h=>by
  simp only [Zi6,BT.run,Zak]
  by_cases c:i<B.length
  ·rw [if_pos c,ZlT zO]
   by_cases c2:i+(n+1)≤B.length
   ·rw [if_pos zO,if_pos c2]
    simp only [BR.bnd,BT.run]
    have:B.drop i=B.getD i 0::B.drop (i+1):=by
     rw [List.drop_eq_getElem_cons c];simp [List.getD,List.getElem?_eq_getElem c]
    rw [this,List.take_succ_cons,Zfi]
    congr 1
    omega
   ·rw [if_neg zO,if_neg c2];rfl
  ·rw [if_neg c,if_neg zO]
theorem ZlU {b:List UInt8} {i n:Nat} (h:i+n≤8*b.length):Zfi (((Zae b).drop i).take n)=ZaG b i n:=by
 unfold ZaG
 congr 1
 apply List.ext_getElem?
 intro k
 rw [List.getElem?_take]
 by_cases hk:k<n
 ·have hj:i+k<8*b.length:=zO
  have hj2:i+k<(Zae b).length:=by rw [Zad];exact hj
  rw [if_pos hk,List.getElem?_drop,List.getElem?_map,List.getElem?_range hk,List.getElem?_eq_getElem hj2]
  simp only [Option.map_some,Option.some.injEq]
  rw [←Zmz hj]
  simp [List.getD,List.getElem?_eq_getElem hj2]
 ·rw [if_neg hk,List.getElem?_eq_none (by simp;omega)]
theorem Zdq {b:List UInt8} {i n:Nat} (h:i≤8*b.length):(Zi6 n).run (Zae b) i=if i+n≤8*b.length then .ok (ZaG b i n) (i+n) else .no 2:=by
 rw [ZlT (by rw [Zad];exact h),Zad]
 split
 ·rw [ZlU (by assumption)]
 ·rfl
def ZuI (l:List Nat):Nat→Nat→Nat→BT Nat
 | 0,_,_=>.err 3
 | f+1,n,v=>.bit fun x =>
  if Zas l≤(2*v+x)*2^(15-(n+1)) then .err 3 else
  if 2*v+x-fr l (n+1)<cn l (n+1) then .ret ((Zd1 l l.length (n+1)).getD (2*v+x-fr l (n+1)) 0) else
  ZuI l f (n+1) (2*v+x)
def Zwt (i:Nat) (r:Nat × Nat × Nat):BR Nat:=if r.2.2=0 then .ok r.1 (i+r.2.1) else .no r.2.2
theorem Zsn {l B:List Nat} {i:Nat}:∀ {f n v:Nat},(ZuI l f n v).run B (i+n)=Zwt i (nxt l (B.drop i) f n v)
 | 0,n,v=>rfl
 | f+1,n,v=>by
  have hg:(B.drop i).getD n 0=B.getD (i+n) 0:=by simp [List.getD]
  rw [nxt,hg]
  simp only [ZuI,BT.run]
  by_cases c:i+n<B.length
  ·rw [if_pos c,if_neg (show ¬ (B.drop i).length≤n by rw [List.length_drop];omega)]
   split
   ·rfl
   ·split
    ·simp only [BT.run,Zwt,if_true,Nat.add_assoc]
    ·exact Zsn (n:=n+1)
  ·rw [if_neg c,if_pos (show (B.drop i).length≤n by rw [List.length_drop];omega)];rfl
theorem ZmD {l B:List Nat} {i:Nat}:(ZuI l 15 0 0).run B i=Zwt i (nxt l (B.drop i) 15 0 0):=Zsn (n:=0)
def ZeO (v n:Nat):BT Nat:=(Zi6 n).bnd fun x=>.ret (v+x)
def ZnF (s:Nat):BT Nat:=if 29≤s then .err 3 else if s=28 then .ret 258 else if s<8 then .ret (3+s) else ZeO (3+(4+s % 4)*2^(s / 4-1)) (s / 4-1)
def Zou (s:Nat):BT Nat:=if 30≤s then .err 3 else if s<4 then .ret (1+s) else ZeO (1+(2+s % 2)*2^(s / 2-1)) (s / 2-1)
theorem Zov {B:List Nat} (hB:∀ x∈B,x<2) {v n i a j:Nat} (h:(ZeO v n).run B i = .ok a j):a<v+2^n:=by
 rw [ZeO,Zak] at h
 have key:∀ (n i a j:Nat),(Zi6 n).run B i = .ok a j→a<2^n:=by
  intro n
  induction n with
  | zero=>intro i a j h;simp only [Zi6,BT.run,BR.ok.injEq] at h;omega
  | succ n ih =>
   intro i a j h
   simp only [Zi6,BT.run,Zak] at h
   split at h
   ·rename_i hi
    have hx:B.getD i 0<2:=by
     have:B.getD i 0=B[i]:=by simp [List.getD,List.getElem?_eq_getElem hi]
     rw [this];exact hB _ (List.getElem_mem hi)
    cases hr:(Zi6 n).run B (i+1) with
    | no e=>rw [hr] at h;cases h
    | ok y k =>
     rw [hr] at h
     have:=ih _ _ _ hr
     simp only [BR.bnd,BT.run,BR.ok.injEq] at h
     rw [Nat.pow_succ];omega
   ·cases h
 cases hr:(Zi6 n).run B i with
 | no e=>rw [hr] at h;cases h
 | ok y k =>
  rw [hr] at h
  have:=key _ _ _ _ hr
  simp only [BR.bnd,BT.run,BR.ok.injEq] at h
  omega
theorem ZyO {B:List Nat} {v n i a j:Nat} (h:(ZeO v n).run B i = .ok a j):v≤a:=by
 rw [ZeO,Zak] at h
 cases hr:(Zi6 n).run B i with
 | no e=>rw [hr] at h;cases h
 | ok y k=>rw [hr] at h;simp only [BR.bnd,BT.run,BR.ok.injEq] at h;omega
theorem ZA3 {b:List UInt8} {s i a j:Nat} (h:(ZnF s).run (Zae b) i = .ok a j):a≤258:=by
 unfold ZnF at h
 split at h
 ·cases h
 ·split at h
  ·simp only [BT.run,BR.ok.injEq] at h;omega
  ·split at h
   ·simp only [BT.run,BR.ok.injEq] at h;omega
   ·have:=Zov Zdc h
    rename_i h1 h2 h3
    have hk:s / 4-1=1∨s / 4-1=2∨s / 4-1=3∨s / 4-1=4∨s / 4-1=5:=zO
    have hm:s % 4<4:=zO
    generalize s % 4=m at *
    generalize s / 4-1=k at *
    rcases hk with rfl | rfl | rfl | rfl | rfl <;> omega
theorem ZA4 {b:List UInt8} {s i a j:Nat} (h:(Zou s).run (Zae b) i = .ok a j):1≤a∧a≤32768:=by
 unfold Zou at h
 split at h
 ·cases h
 ·split at h
  ·simp only [BT.run,BR.ok.injEq] at h;omega
  ·have h2:=Zov Zdc h
   have h3:1≤a:=by
    rw [ZeO,Zak] at h
    cases hr:(Zi6 (s / 2-1)).run (Zae b) i with
    | no e=>rw [hr] at h;cases h
    | ok y k=>rw [hr] at h;simp only [BR.bnd,BT.run,BR.ok.injEq] at h;omega
   refine ⟨h3,?_⟩
   have hk:2^(s / 2-1)≤8192:=ZaI (n:=s / 2-1) (m:=13) zO
   have hm:s % 2<2:=zO
   generalize s % 2=m at *
   generalize 2^(s / 2-1)=p at *
   obtain rfl | rfl:m=0∨m=1:=zO
   ·omega
   ·omega
def cpy (out:List UInt8) (k:Nat):Nat→List UInt8
 | 0=>out
 | n+1=>cpy (out++[out.getD (out.length-k) 0]) k n
theorem Ziy {k:Nat}:∀ {n:Nat} {out:List UInt8},(cpy out k n).length=out.length+n
 | 0,_=>rfl
 | n+1,out=>by rw [cpy,Ziy,List.length_append,List.length_singleton];omega
theorem Zow {k:Nat}:∀ {n:Nat} {out:List UInt8},cpy out k (n+1)=cpy out k n++[(cpy out k n).getD ((cpy out k n).length-k) 0]
 | 0,out=>rfl
 | n+1,out=>by
  show cpy (out++[out.getD (out.length-k) 0]) k (n+1)=_
  rw [Zow];rfl
def ZuJ (most:Nat) (d:List Nat) (out:List UInt8) (s:Nat):BT (List UInt8) :=
 (ZnF s).bnd fun n=>(ZuI d 15 0 0).bnd fun t=>(Zou t).bnd fun k =>
  if out.length<k then .err 3 else if most<out.length+n then .err 4 else .ret (cpy out k n)
def ZnG (l d:List Nat) (most:Nat):Nat→List UInt8→BT (List UInt8)
 | 0,_=>.err 2
 | f+1,out=>(ZuI l 15 0 0).bnd fun s =>
  if s<256 then (if most≤out.length then .err 4 else ZnG l d most f (out++[UInt8.ofNat s])) else
  if s=256 then .ret out else (ZuJ most d out (s-257)).bnd fun o=>ZnG l d most f o
def Zso:Nat→BT (List UInt8)
 | 0=>.ret []
 | n+1=>(Zi6 8).bnd fun x=>(Zso n).bnd fun r=>.ret (UInt8.ofNat x::r)
def ZuK (most:Nat) (out:List UInt8):BT (List UInt8) :=
 .pos fun i=>(Zi6 ((i+7) / 8*8-i)).bnd fun _=>(Zi6 16).bnd fun n=>(Zi6 16).bnd fun m =>
  if n+m≠65535 then .err 3 else (Zso n).bnd fun bs=>if most<out.length+n then .err 4 else .ret (out++bs)
def Zim:List Nat:=[16,17,18,0,8,7,9,6,10,5,11,4,12,3,13,2,14,1,15]
def Zox:Nat→Nat→List Nat→BT (List Nat)
 | 0,_,l=>.ret l
 | n+1,k,l=>(Zi6 3).bnd fun x=>Zox n (k+1) (l.set (Zim.getD k 0) x)
def lsV (s:Nat) (l:List Nat):Nat:=if s=16 then l.getD (l.length-1) 0 else if s=17∨s=18 then 0 else s
def lsN (s:Nat):Nat:=if s=16∨s=17 then 3 else if s=18 then 11 else 1
def lsB (s:Nat):Nat:=if s=16 then 2 else if s=17 then 3 else if s=18 then 7 else 0
def lsT (th:List Nat) (n:Nat):Nat→List Nat→BT (List Nat)
 | 0,_=>.err 3
 | f+1,l=>if n≤l.length then .ret l else (ZuI th 15 0 0).bnd fun s =>
  if s=16∧l=[] then .err 3 else (ZeO (lsN s) (lsB s)).bnd fun t=>if n<l.length+t then .err 3 else lsT th n f (l++List.replicate t (lsV s l))
def fulN (l:List Nat):Bool:=decide (l.length≤320∧Zas l=32768)
def Zzx (l:List Nat):Bool:=decide (l.sum≤1) || fulN l
def Zsp (l d:List Nat):Bool:=decide (l.getD 256 0≠0)&&fulN l&&Zzx d
def ZuL (n:Nat):BT (List Nat):=(Zox n 0 (List.replicate 19 0)).bnd fun th=>if fulN th=true then .ret th else .err 3
def Zrw:BT (List Nat × List Nat) :=
 (Zi6 14).bnd fun c=>if 286<c % 32+257∨30<c / 32 % 32+1 then .err 3 else
  (ZuL (c / 1024+4)).bnd fun th=>(lsT th (c % 32+257+(c / 32 % 32+1)) 400 []).bnd fun ls =>
   if Zsp (ls.take (c % 32+257)) (ls.drop (c % 32+257))=true then .ret (ls.take (c % 32+257),ls.drop (c % 32+257)) else .err 3
def ZnH:List Nat:=List.replicate 144 8++(List.replicate 112 9++(List.replicate 24 7++List.replicate 8 8))
def Zoy:List Nat:=List.replicate 32 5
def Zrx (most F:Nat) (out:List UInt8) (h:Nat):BT (List UInt8) :=
 if h=0 then ZuK most out else if h=1 then ZnG ZnH Zoy most F out else
 if h=2 then Zrw.bnd fun p=>ZnG p.1 p.2 most F out else .err 3
def ZoX (most F:Nat) (out:List UInt8):BT (Bool × List UInt8) :=
 (Zi6 3).bnd fun h=>(Zrx most F out (h / 2)).bnd fun o=>.ret (decide (h % 2=1),o)
def Zoz (most F:Nat):Nat→List UInt8→BT (List UInt8)
 | 0,_=>.err 2
 | f+1,out=>(ZoX most F out).bnd fun p=>if p.1=true then .ret p.2 else Zoz most F f p.2
def Zzy:BR (List UInt8)→List UInt8 × Nat × Nat
 | .ok o j=>(o,(j+7) / 8,0)
 | .no e=>([],0,e)
def ZoA (F:Nat) (b:List UInt8) (most:Nat):List UInt8 × Nat × Nat:=Zzy ((Zoz most F F []).run (Zae b) 0)
theorem ZoB {b:List UInt8}:∀ {n j:Nat},j≤b.length→(Zso n).run (Zae b) (8*j)=if j+n≤b.length then .ok ((b.drop j).take n) (8*(j+n)) else .no 2
 | 0,j,h=>by rw [if_pos zO];rfl
 | n+1,j,h=>by
  simp only [Zso,Zak]
  rw [Zdq zO]
  by_cases c:j<b.length
  ·rw [if_pos zO]
   simp only [BR.bnd,Zak]
   rw [show 8*j+8=8*(j+1) by omega,ZoB zO]
   by_cases c2:j+(n+1)≤b.length
   ·rw [if_pos zO,if_pos c2]
    simp only [BR.bnd,BT.run]
    have e:b.drop j=b.getD j 0::b.drop (j+1):=by
     rw [List.drop_eq_getElem_cons c];simp [List.getD,List.getElem?_eq_getElem c]
    have e2:UInt8.ofNat (ZaG b (8*j) 8)=b.getD j 0:=by
     have h1:(Zae b).drop (8*j)=Zc8 (b.getD j 0)++Zae (b.drop (j+1)):=by
      conv=>lhs;rw [←List.take_append_drop j b,ZbP]
      rw [List.drop_append,Zad,List.length_take,Nat.min_eq_left zO,Nat.sub_self,List.drop_zero,List.drop_of_length_le (by rw [Zad,List.length_take];omega),List.nil_append,e]
      simp [Zae]
     rw [←ZlU zO,h1,List.take_append_of_le_length (by rw [ZaM];exact Nat.le_refl _),List.take_of_length_le (by rw [ZaM];exact Nat.le_refl _)]
     have:=(b.getD j 0).toNat_lt
     have h2:Zfi (Zc8 (b.getD j 0))=(b.getD j 0).toNat:=numB_bitsB
     rw [h2];exact UInt8.ofNat_toNat
    rw [e2,e,List.take_succ_cons]
    congr 1
    omega
   ·rw [if_neg zO,if_neg c2]
  ·rw [if_neg zO,if_neg zO];rfl
where
 numB_bitsB {c:UInt8}:Zfi (Zc8 c)=c.toNat:=by
  have:=c.toNat_lt
  simp only [Zc8,show List.range 8=[0,1,2,3,4,5,6,7] from rfl,List.map_cons,List.map_nil,Zfi]
  omega
theorem Zsq {b:List UInt8} {most:Nat} {out:List UInt8} {i:Nat} (hi:i≤8*b.length) :
  (ZuK most out).run (Zae b) i =
   if 8*b.length<(i+7) / 8*8+16 then .no 2 else if 8*b.length<(i+7) / 8*8+32 then .no 2 else
   if ZaG b ((i+7) / 8*8) 16+ZaG b ((i+7) / 8*8+16) 16≠65535 then .no 3 else
   if b.length<(i+7) / 8+4+ZaG b ((i+7) / 8*8) 16 then .no 2 else
   if most<out.length+ZaG b ((i+7) / 8*8) 16 then .no 4 else
   .ok (out++(b.drop ((i+7) / 8+4)).take (ZaG b ((i+7) / 8*8) 16)) (8*((i+7) / 8+4+ZaG b ((i+7) / 8*8) 16)):=by
 obtain ⟨q,hq⟩:∃ q,q=(i+7) / 8:=⟨_,rfl⟩
 rw [←hq]
 simp only [ZuK,BT.run,Zak]
 rw [←hq,Zdq hi,if_pos zO]
 simp only [BR.bnd,Zak]
 rw [show i+(q*8-i)=q*8 by omega,Zdq zO]
 by_cases c1:8*b.length<q*8+16
 ·rw [if_neg zO,if_pos c1]
 ·rw [if_pos zO,if_neg c1]
  simp only [BR.bnd,Zak]
  rw [Zdq zO]
  by_cases c2:8*b.length<q*8+32
  ·rw [if_neg zO,if_pos c2]
  ·rw [if_pos zO,if_neg c2]
   simp only [BR.bnd]
   split
   ·rfl
   ·rw [Zak,show q*8+16+16=8*(q+4) by omega,ZoB zO]
    by_cases c3:b.length<q+4+ZaG b (q*8) 16
    ·rw [if_neg zO,if_pos c3];rfl
    ·rw [if_pos zO,if_neg c3]
     simp only [BR.bnd]
     split
     ·rfl
     ·rfl
inductive BT.safe {α:Type}:BT α→Prop where
 | ret (a:α):BT.safe (.ret a)
 | err (e:Nat) (h:e≠0∧e≤10):BT.safe (.err e)
 | pos (k:Nat→BT α) (h:∀ i,BT.safe (k i)):BT.safe (.pos k)
 | bit (k:Nat→BT α) (h:∀ x,BT.safe (k x)):BT.safe (.bit k)
theorem ZaZ {α β:Type} {f:α→BT β} {t:BT α} (h:t.safe) (h2:∀ a,(f a).safe):(t.bnd f).safe:=by
 induction h with
 | ret a=>exact h2 a
 | err e h=>exact .err e h
 | pos k _ ih=>exact .pos _ ih
 | bit k _ ih=>exact .bit _ ih
theorem Zeo {α:Type} {B:List Nat} {e:Nat} {t:BT α} (h:t.safe):∀ {i:Nat},t.run B i = .no e→e≠0∧e≤10:=by
 induction h with
 | ret a=>intro i h;simp [BT.run] at h
 | err e h=>intro i h2;simp only [BT.run,BR.no.injEq] at h2;subst h2;exact h
 | pos k _ ih=>intro i h2;simp only [BT.run] at h2;exact ih _ h2
 | bit k _ ih =>
  intro i h2
  simp only [BT.run] at h2
  split at h2
  ·exact ih _ h2
  ·simp only [BR.no.injEq] at h2;omega
theorem ZbF {α:Type} {a:α}:(BT.ret a).safe:=.ret a
theorem Zfd {α:Type} {c:Prop} [Decidable c] {a b:BT α} (ha:a.safe) (hb:b.safe):(if c then a else b).safe:=by split <;> assumption
theorem Zbq {α:Type} {e:Nat} (h:e≠0∧e≤10):(BT.err e:BT α).safe:=.err e h
theorem Zfe:∀ {n:Nat},(Zi6 n).safe
 | 0=>.ret _
 | _+1=>.bit _ fun _=>ZaZ Zfe fun _=>.ret _
theorem ZlV {l:List Nat}:∀ {f n v:Nat},(ZuI l f n v).safe
 | 0,_,_=>Zbq zO
 | _+1,_,_=>.bit _ fun _=>Zfd (Zbq zO) (Zfd ZbF ZlV)
theorem ZmE {v n:Nat}:(ZeO v n).safe:=ZaZ Zfe fun _=>ZbF
theorem ZyP {s:Nat}:(ZnF s).safe:=Zfd (Zbq zO) (Zfd ZbF (Zfd ZbF ZmE))
theorem ZyQ {s:Nat}:(Zou s).safe:=Zfd (Zbq zO) (Zfd ZbF ZmE)
theorem Zwu {most s:Nat} {d:List Nat} {out:List UInt8}:(ZuJ most d out s).safe:=by
 unfold ZuJ
 exact ZaZ ZyP fun _=>ZaZ ZlV fun _=>ZaZ ZyQ fun _=>Zfd (Zbq zO) (Zfd (Zbq zO) ZbF)
theorem ZoC {l d:List Nat} {most:Nat}:∀ (f:Nat) (out:List UInt8),(ZnG l d most f out).safe:=by
 intro f
 induction f with
 | zero=>intro out;exact Zbq zO
 | succ f ih =>
  intro out
  rw [ZnG]
  refine ZaZ ZlV fun s=>?_
  by_cases h:s<256
  ·rw [if_pos h]
   by_cases h2:most≤out.length
   ·rw [if_pos h2];exact Zbq zO
   ·rw [if_neg h2];exact ih _
  ·rw [if_neg h]
   by_cases h2:s=256
   ·rw [if_pos h2];exact ZbF
   ·rw [if_neg h2];exact ZaZ Zwu fun o=>ih o
theorem ZyR:∀ (n:Nat),(Zso n).safe:=by
 intro n
 induction n with
 | zero=>exact ZbF
 | succ n ih=>rw [Zso];exact ZaZ Zfe fun x=>ZaZ ih fun r=>ZbF
theorem ZyS {α:Type} {k:Nat→BT α} (h:∀ i,(k i).safe):(BT.pos k).safe:=.pos k h
theorem ZyT {most:Nat} {out:List UInt8}:(ZuK most out).safe:=by
 unfold ZuK
 refine ZyS fun i=>?_
 refine ZaZ Zfe fun _=>?_
 refine ZaZ Zfe fun n=>?_
 refine ZaZ Zfe fun m=>?_
 by_cases h:n+m≠65535
 ·rw [if_pos h];exact Zbq zO
 ·rw [if_neg h]
  refine ZaZ (ZyR n) fun bs=>?_
  by_cases h2:most<out.length+n
  ·rw [if_pos h2];exact Zbq zO
  ·rw [if_neg h2];exact ZbF
theorem ZyU:∀ (n k:Nat) (l:List Nat),(Zox n k l).safe:=by
 intro n
 induction n with
 | zero=>intro k l;exact ZbF
 | succ n ih=>intro k l;rw [Zox];exact ZaZ Zfe fun x=>ih _ _
theorem Zwv {th:List Nat} {n:Nat}:∀ (f:Nat) (l:List Nat),(lsT th n f l).safe:=by
 intro f
 induction f with
 | zero=>intro l;exact Zbq zO
 | succ f ih =>
  intro l
  rw [lsT]
  by_cases h:n≤l.length
  ·rw [if_pos h];exact ZbF
  ·rw [if_neg h]
   refine ZaZ ZlV fun s=>?_
   by_cases h2:s=16∧l=[]
   ·rw [if_pos h2];exact Zbq zO
   ·rw [if_neg h2]
    refine ZaZ ZmE fun t=>?_
    by_cases h3:n<l.length+t
    ·rw [if_pos h3];exact Zbq zO
    ·rw [if_neg h3];exact ih _
theorem Zsr {n:Nat}:(ZuL n).safe:=by
 unfold ZuL
 refine ZaZ (ZyU _ _ _) fun th=>?_
 by_cases h2:fulN th=true
 ·rw [if_pos h2];exact ZbF
 ·rw [if_neg h2];exact Zbq zO
theorem Zss:Zrw.safe:=by
 unfold Zrw
 refine ZaZ Zfe fun c=>?_
 by_cases h:286<c % 32+257∨30<c / 32 % 32+1
 ·rw [if_pos h];exact Zbq zO
 ·rw [if_neg h]
  refine ZaZ Zsr fun th=>ZaZ (Zwv _ _) fun ls=>?_
  by_cases h3:Zsp (ls.take (c % 32+257)) (ls.drop (c % 32+257))=true
  ·rw [if_pos h3];exact ZbF
  ·rw [if_neg h3];exact Zbq zO
theorem ZoD {most F h:Nat} {out:List UInt8}:(Zrx most F out h).safe:=by
 unfold Zrx
 by_cases h0:h=0
 ·rw [if_pos h0];exact ZyT
 ·rw [if_neg h0]
  by_cases h1:h=1
  ·rw [if_pos h1];exact ZoC _ _
  ·rw [if_neg h1]
   by_cases h2:h=2
   ·rw [if_pos h2];exact ZaZ Zss fun p=>ZoC _ _
   ·rw [if_neg h2];exact Zbq zO
theorem Zst {most F:Nat} {out:List UInt8}:(ZoX most F out).safe:=by
 unfold ZoX
 exact ZaZ Zfe fun h=>ZaZ ZoD fun o=>ZbF
theorem ZoE {most F:Nat}:∀ (f:Nat) (out:List UInt8),(Zoz most F f out).safe:=by
 intro f
 induction f with
 | zero=>intro out;exact Zbq zO
 | succ f ih =>
  intro out
  rw [Zoz]
  refine ZaZ Zst fun p=>?_
  by_cases h:p.1=true
  ·rw [if_pos h];exact ZbF
  ·rw [if_neg h];exact ih _
def ZoY:List AV→List AV→Prop
 | [],[]=>True
 | x::xs,y::ys=>(x=y∨x = .junk)∧ZoY xs ys
 | _,_=>False
theorem Zww {c:Nat}:∀ {xs ys:List AV},ZoY xs ys→AV.gl.glL c ys→AV.gl.glL c xs
 | [],[],_,h=>h
 | x::xs,y::ys,hb,h=>by
  simp only [AV.gl.glL] at h ⊢
  refine ⟨?_,Zww hb.2 h.2⟩
  rcases hb.1 with rfl | rfl
  ·exact h.1
  ·simp [AV.gl]
 | [],_::_,hb,_=>hb.elim
 | _::_,[],hb,_=>hb.elim
theorem Zwx {G:Gh} {w:World}:∀ {xs ys:List AV} {vs:List Value},ZoY xs ys→RdL G w ys vs→RdL G w xs vs
 | [],[],_,_,h=>h
 | x::xs,y::ys,vs,hb,h=>by
  simp only [RdL] at h ⊢
  obtain ⟨v,r,rfl,h1,h2⟩:=h
  refine ⟨v,r,rfl,?_,Zwx hb.2 h2⟩
  rcases hb.1 with rfl | rfl
  ·exact h1
  ·simp [Rd]
 | [],_::_,_,hb,_=>hb.elim
 | _::_,[],_,hb,_=>hb.elim
theorem SWp.blur {P:Program} [Tabs P] {Q:Ex→ASt→Prop} {st:ASt} {c:SCode} (id g:Nat) {nl:Bool} {cells:List AV} (cells':List AV) (hid:st.hp id=some (g,.row nl cells)) (hb:ZoY cells' cells)
  (h:SWp P c Q ⟨st.tm,Za8 st.hp id (some (g,.row nl cells')),st.gc,st.N⟩):SWp P c Q st:=by
 intro hm code hc w0 M Z G a w hR
 have hH2:=Zmt hR.heap hid (Zww hb (hR.heap.gl _ _ _ _ hid).2) (by
   intro e;subst e
   cases cells' with
   | nil=>rfl
   | cons x xs=>exact hb.elim) (fun vs hvs=>Zwx hb hvs)
 exact h hm code hc w0 M Z G a w ⟨hR.keep,hH2,hR.size,hR.tm,hR.gl,hR.defers,hR.fr,hR.ext,hR.lc,hR.lc1,hR.tabs⟩
def stR (nb:Bool) (B:List Nat) (most g n i e:Nat):List AV:=[.sl nb none (B.map nA),int (i:Int),.own 1001 g none 0 n,int (most:Int),int (e:Int)]
def stI (nb:Bool) (B:List Nat) (most i e:Nat) (out:List UInt8):List AO:=[.row false (stR nb B most 0 out.length i e),.row (nl0 out.length) (out.map u8)]
def stO (g:Nat) (nb:Bool) (B:List Nat) (most i e:Nat) (out:List UInt8):List (Nat × Nat × AO):=[(1000,0,.row false (stR nb B most g out.length i e)),(1001,g,.row (nl0 out.length) (out.map u8))]
theorem ZpO {nb:Bool} {B:List Nat} {most i e:Nat} {out:List UInt8}:∀ m cells,AO.row m cells∈stI nb B most i e out→AV.gl.glL 1 cells:=by
 intro m cells h
 simp only [stI,List.mem_cons,AO.row.injEq,List.not_mem_nil,or_false] at h
 obtain ⟨-,rfl⟩ | ⟨-,rfl⟩:=h
 ·simp only [stR,AV.gl.glL,AV.gl,int,and_true]
  refine ⟨Zan _ _ Zaj,?_⟩
  simp
 ·exact Zan _ _ Zag
def jkR (e:Nat):List AV:=[.junk,.junk,.junk,.junk,int (e:Int)]
def BG9:=ja4 @stI.eq_1 @stR.eq_1 @stO.eq_1 iR
theorem Za7 [Tabs Tryz.prog] (nb:Bool) (B:List Nat) (most i e:Nat) (out:List UInt8) (is:Bool) (x:Nat) :
  HCon Tryz.prog Zar [.op 1000 0 0,boo is,int (x:Int)] (stI nb B most i e out) (.tup []) (stO 0 nb B most i (if is=true∧e=0 then x else e) out) 1:=by
 refine HCon.of' mix Tryz.func49 rfl Tryz.ntmps49 ZgY ZgZ zB (by simp [AV.gl,AV.gl.glL,int,boo]) ZpO ?_
 unfold Zdv
 cases is with
 | false =>
  rw [if_neg zB]
  repeat (first|refine zR BG9 ?_|exact zU BG9)
 | true =>
  by_cases c:e=0
  ·subst c
   rw [if_pos ⟨rfl,rfl⟩]
   repeat (first|refine zR BG9 ?_|exact zU BG9)
  ·have d:decide ((e:Int)=0)=false:=decide_eq_false zO
   rw [if_neg (fun h=>c h.2)]
   repeat (first|refine zR (ja5 @stI.eq_1 @stR.eq_1 @stO.eq_1 iR @d) ?_|exact zU (ja5 @stI.eq_1 @stR.eq_1 @stO.eq_1 iR @d))
def nuS (B:List Nat) (n i e:Nat):Nat × Nat × Nat:=if e≠0 then (0,i,e) else if i+n≤B.length then (Zfi ((B.drop i).take n),i+n,0) else (0,i,2)
def BG0:=ja3 @stO.eq_1 @stR.eq_1 iR
theorem Zf2 [Tabs Tryz.prog] (nb:Bool) (B:List Nat) (hBl:B.length≤400000) (hB:∀ x∈B,x<2) (most i e:Nat) (hi:i≤B.length) (out:List UInt8) (n:Nat) (hn:n≤24) :
  HCon Tryz.prog Zah [.op 1000 0 0,int (n:Int)] (stI nb B most i e out) (int ((nuS B n i e).1:Int)) (stO 0 nb B most (nuS B n i e).2.1 (nuS B n i e).2.2 out) 1:=by
 refine HCon.of' mix Tryz.func23 rfl Tryz.ntmps23 ZfD ZfE zB (by simp [AV.gl,AV.gl.glL,int]) ZpO ?_
 unfold Zcp
 by_cases c:e=0
 ·subst c
  by_cases c2:i+n≤B.length
  ·rw [show nuS B n i 0=(Zfi ((B.drop i).take n),i+n,0) by rw [nuS,if_neg zB,if_pos c2]]
   have d:decide ((B.length:Int)-(i:Int)<(n:Int))=false:=decide_eq_false zO
   have hN:=ZpI nb ((B.drop i).take n) (by rw [List.length_take];omega) (fun x hx=>hB x (List.mem_of_mem_drop (List.mem_of_mem_take hx)))
   have hdt:(B.take (i+n)).drop i=(B.drop i).take n:=by rw [List.drop_take];congr 1;omega
   have e1:(i:Int)+(n:Int)-(n:Int)=(i:Int):=zO
   obtain ⟨j,hj⟩:∃ j,j=i+n:=⟨_,rfl⟩
   have ej:(i:Int)+(n:Int)=(j:Int):=zO
   have ej2:(j:Int)-(n:Int)=(i:Int):=zO
   rw [←hj] at hdt ⊢
   have hjl:j≤B.length:=zO
   repeat (first|refine zR (ja7 @stI.eq_1 @stR.eq_1 @d iR @ej @ej2 @hdt) ?_|exact zU (ja7 @stI.eq_1 @stR.eq_1 @d iR @ej @ej2 @hdt))
   refine Zaq _ (.inl ⟨by simp only [AV.free,AV.free.freeL,Zaj,Bool.and_self],hN⟩) ?_
   repeat (first|refine zR BG0 ?_|exact zU BG0)
  ·rw [show nuS B n i 0=(0,i,2) by rw [nuS,if_neg zB,if_neg c2]]
   have d:decide ((B.length:Int)-(i:Int)<(n:Int))=true:=decide_eq_true zO
   repeat (first|refine zR (ja5 @stI.eq_1 @stR.eq_1 @stO.eq_1 @d iR) ?_|exact zU (ja5 @stI.eq_1 @stR.eq_1 @stO.eq_1 @d iR))
 ·rw [show nuS B n i e=(0,i,e) by rw [nuS,if_pos c]]
  have d:decide ((e:Int)=0)=false:=decide_eq_false zO
  repeat (first|refine zR (ja5 @stI.eq_1 @stR.eq_1 @stO.eq_1 @d iR) ?_|exact zU (ja5 @stI.eq_1 @stR.eq_1 @stO.eq_1 @d iR))
def cds (l d:List Nat):AV:=.fp (.agg [.fp (.agg (trR l)) 0,.fp (.agg (trR d)) 0]) 0
def fxA:Bool→AV
 | true=>cds ZnH Zoy
 | false=>.sc (.pointer none)
theorem Zkl {l d:List Nat}:(cds l d).free=true:=by simp only [cds,AV.free,AV.free.freeL,ZbA,Bool.and_self]
theorem Zsu {t:Bool}:(fxA t).free=true:=by
 cases t
 ·rfl
 ·exact Zkl
theorem ZbC {ρ:Nat→Nat→Nat × Nat} {l d:List Nat}:ren ρ (cds l d)=cds l d:=Ziu ρ _ Zkl
theorem Zaa {ρ:Nat→Nat→Nat × Nat} {t:Bool}:ren ρ (fxA t)=fxA t:=Ziu ρ _ Zsu
theorem Zwy {id g:Nat} {nl:Bool} {cells:List AV} {t:Bool}:fzo id g nl cells (fxA t)=fxA t:=by cases t <;> rfl
theorem Zhc {t:Bool}:Zat (fxA t)=some [fxA t]:=by cases t <;> rfl
def unR (t:Bool) (most g n:Nat):List AV:=[.op 1001 0 0,.own 1002 g none 0 n,int (most:Int),fxA t]
def unI (t:Bool) (most:Nat) (nl:Bool) (b:List UInt8) (i:Nat) (out:List UInt8):List AO:=[.row false (unR t most 0 out.length),.row false (rdR nl b i),.row (nl0 out.length) (out.map u8)]
def unO (g:Nat) (t:Bool) (most:Nat) (nl:Bool) (b:List UInt8) (i:Nat) (out:List UInt8):List (Nat × Nat × AO):=[(1000,0,.row false (unR t most g out.length)),(1001,0,.row false (rdR nl b i)),(1002,g,.row (nl0 out.length) (out.map u8))]
theorem Zem {t:Bool} {most:Nat} {nl:Bool} {b:List UInt8} {i:Nat} {out:List UInt8}:∀ m cells,AO.row m cells∈unI t most nl b i out→AV.gl.glL 1 cells:=by
 intro m cells h
 simp only [unI,List.mem_cons,AO.row.injEq,List.not_mem_nil,or_false] at h
 obtain ⟨-,rfl⟩ | ⟨-,rfl⟩ | ⟨-,rfl⟩:=h
 ·simp only [unR,AV.gl.glL,AV.gl,int,and_true]
  exact ⟨by omega,by omega,trivial,Zbw 1 _ Zsu⟩
 ·simp only [rdR,AV.gl.glL,AV.gl,and_true]
  exact Zan _ _ Zag
 ·exact Zan _ _ Zag
def BG10:=ja2 @unI.eq_1 @unR.eq_1
def BG11:=ja3 @rdR.eq_1 @unO.eq_1 @unR.eq_1
theorem Zuq [Tabs Tryz.prog] (t:Bool) (most:Nat) (nl:Bool) (b:List UInt8) (hb:b.length≤1000000) (i:Nat) (hi:i≤8*b.length) (out:List UInt8) (v n:Nat) (hn:n≤24) (hv:v<100000) (hin:i+n≤8*b.length) :
  HCon Tryz.prog ZaO [.op 1000 0 0,int (v:Int),int (n:Int)] (unI t most nl b i out) (.tup [int ((v+ZaG b i n:Nat):Int),int 0]) (unO 0 t most nl b (i+n) out) 40:=by
 refine HCon.of' mix Tryz.func131 rfl Tryz.ntmps131 ZdY ZdZ zB (by simp [AV.gl,AV.gl.glL,int]) Zem ?_
 unfold ZbU
 have hT:=Zdo nl b hb i hi n hn hin
 have hlt:=Zen (b:=b) (i:=i) (n:=n)
 have hp:2^n≤16777216:=ZaI (n:=n) (m:=24) hn
 obtain ⟨x,hx⟩:∃ x,x=ZaG b i n:=⟨_,rfl⟩
 rw [←hx] at hT hlt ⊢
 repeat (first|refine zR BG10 ?_|exact zU BG10)
 refine Zab [(1001,0)] 2000 hT zB zB ?_ ?_ ?_
 iterate 2 (case _=>(first|exact yU @rdR.eq_1|refine yR @rdR.eq_1 ?_))
 repeat (first|refine zR BG11 ?_|exact zU BG11)
theorem Zry [Tabs Tryz.prog] (t:Bool) (most:Nat) (nl:Bool) (b:List UInt8) (hb:b.length≤1000000) (i:Nat) (hi:i≤8*b.length) (out:List UInt8) (v n:Nat) (hin:¬ i+n≤8*b.length) :
  HCon Tryz.prog ZaO [.op 1000 0 0,int (v:Int),int (n:Int)] (unI t most nl b i out) (.tup [int 0,int 2]) [] 40:=by
 refine HCon.of' mix Tryz.func131 rfl Tryz.ntmps131 ZdY ZdZ zB (by simp [AV.gl,AV.gl.glL,int]) Zem ?_
 unfold ZbU
 have hT:=Zdw nl b hb i hi (n:Int) (decide_eq_false zO)
 repeat (first|refine zR BG10 ?_|exact zU BG10)
 refine Zab [(1001,0)] 2000 hT zB zB ?_ ?_ ?_
 iterate 2 (case _=>(first|exact yU @rdR.eq_1|refine yR @rdR.eq_1 ?_))
 repeat (first|refine zR BG11 ?_|exact zU BG11)
theorem Zhd [Tabs Tryz.prog] (t:Bool) (most:Nat) (hm:most≤16777216) (nl:Bool) (b:List UInt8) (i:Nat) (out:List UInt8) (ho:out.length≤most) :
  HCon Tryz.prog Zbh [.op 1000 0 0] (unI t most nl b i out) (int ((most-out.length:Nat):Int)) (unO 0 t most nl b i out) 1:=by
 refine HCon.of' mix Tryz.func88 rfl Tryz.ntmps88 Zht Zhu zB (by simp [AV.gl,AV.gl.glL,int]) Zem ?_
 unfold ZdX
 have e:(most:Int)-(out.length:Int)=((most-out.length:Nat):Int):=zO
 repeat (first|refine zR (ja4 @unI.eq_1 @unO.eq_1 @unR.eq_1 @e) ?_|exact zU (ja4 @unI.eq_1 @unO.eq_1 @unR.eq_1 @e))
def BG6:=ja4 @unI.eq_1 @unR.eq_1 @rdR.eq_1 @Zaa
theorem Zm3 [Tabs Tryz.prog] (t:Bool) (most:Nat) (hm:most≤16777216) (nl:Bool) (b:List UInt8) (i:Nat) (out:List UInt8) (ho:out.length≤most) (c:UInt8) (hf:most≤out.length) :
  HCon Tryz.prog Zbt [.op 1000 0 0,u8 c] (unI t most nl b i out) (int 4) [] 10:=by
 refine HCon.of' mix Tryz.func91 rfl Tryz.ntmps91 ZcM ZcN zB (by simp [AV.gl,AV.gl.glL,u8]) Zem ?_
 unfold Zbv
 have d:decide (((most-out.length:Nat):Int)<1)=true:=decide_eq_true zO
 repeat (first|refine zS ?_|exact zT)
 refine Zab [(1000,0),(1001,0),(1002,0)] 2000 (Zhd t most hm nl b i out ho) zB zB ?_ ?_ ?_
 iterate 2 (case _=>(first|exact yU BG6|refine yR BG6 ?_))
 repeat (first|refine zR (ja5 @unO.eq_1 @unR.eq_1 @rdR.eq_1 @Zaa @d) ?_|exact zU (ja5 @unO.eq_1 @unR.eq_1 @rdR.eq_1 @Zaa @d))
theorem ZoF [Tabs Tryz.prog] (t:Bool) (most:Nat) (hm:most≤16777216) (nl:Bool) (b:List UInt8) (i:Nat) (out:List UInt8) (hf:out.length<most) (c:UInt8) :
  HCon Tryz.prog Zbt [.op 1000 0 0,u8 c] (unI t most nl b i out) (int 0) (unO 2 t most nl b i (out++[c])) 10:=by
 refine HCon.of' mix Tryz.func91 rfl Tryz.ntmps91 ZcM ZcN zB (by simp [AV.gl,AV.gl.glL,u8]) Zem ?_
 unfold Zbv
 have d:decide (((most-out.length:Nat):Int)<1)=false:=decide_eq_false zO
 repeat (first|refine zS ?_|exact zT)
 refine Zab [(1000,0),(1001,0),(1002,0)] 2000 (Zhd t most hm nl b i out zO) zB zB ?_ ?_ ?_
 iterate 2 (case _=>(first|exact yU BG6|refine yR BG6 ?_))
 repeat (first|refine zR (ja7 @unO.eq_1 @unR.eq_1 @rdR.eq_1 @Zaa @d @Zhc @Zaw) ?_|exact zU (ja7 @unO.eq_1 @unR.eq_1 @rdR.eq_1 @Zaa @d @Zhc @Zaw))
def Ans {α:Type} (P:Program) [Tabs P] (f:Nat) (ins:List AV) (hin:List AO) (r:BR α) (good:α→AV) (hout:α→Nat→List (Nat × Nat × AO)) (bad:Nat→AV) (k:Nat):Prop :=
 match r with
 | .ok a j=>HCon P f ins hin (good a) (hout a j) k
 | .no e=>(e≠0∧e≤10)∧HCon P f ins hin (bad e) [] k
def okI (v:Nat):AV:=.tup [int (v:Int),int 0]
def noI (e:Nat):AV:=.tup [int 0,int (e:Int)]
theorem Zk2 [Tabs Tryz.prog] (t:Bool) (most:Nat) (nl:Bool) (b:List UInt8) (hb:b.length≤1000000) (i:Nat) (hi:i≤8*b.length) (out:List UInt8) (v n:Nat) (hn:n≤24) (hv:v<100000) :
  Ans Tryz.prog ZaO [.op 1000 0 0,int (v:Int),int (n:Int)] (unI t most nl b i out) ((ZeO v n).run (Zae b) i) okI (fun _ j=>unO 0 t most nl b j out) noI 40:=by
 rw [ZeO,Zak,Zdq hi]
 split
 ·exact Zuq t most nl b hb i hi out v n hn hv (by assumption)
 ·exact ⟨by omega,Zry t most nl b hb i hi out v n (by assumption)⟩
def BG12:=ja5 @okI.eq_1 @unO.eq_1 @unR.eq_1 @rdR.eq_1 @Zaa
def BG13:=ja5 @noI.eq_1 @unO.eq_1 @unR.eq_1 @rdR.eq_1 @Zaa
theorem ZpP [Tabs Tryz.prog] (t:Bool) (most:Nat) (nl:Bool) (b:List UInt8) (hb:b.length≤1000000) (i:Nat) (hi:i≤8*b.length) (out:List UInt8) (s:Nat) (hs:s<1000) :
  Ans Tryz.prog Zc2 [.op 1000 0 0,int (s:Int)] (unI t most nl b i out) ((ZnF s).run (Zae b) i) okI (fun _ j=>unO 0 t most nl b j out) noI 50:=by
 by_cases c1:29≤s
 ·rw [show ZnF s = .err 3 by rw [ZnF,if_pos c1]]
  refine ⟨by omega,HCon.of' mix Tryz.func128 rfl Tryz.ntmps128 ZaW ZaX zB (by simp [AV.gl,AV.gl.glL,int]) Zem ?_⟩
  unfold Zaz
  have d1:decide ((29:Int)≤(s:Int))=true:=decide_eq_true zO
  repeat (first|refine zR (ja2 @d1 @noI.eq_1) ?_|exact zU (ja2 @d1 @noI.eq_1))
 have d1:decide ((29:Int)≤(s:Int))=false:=decide_eq_false zO
 by_cases c2:s=28
 ·subst c2
  rw [show ZnF 28 = .ret 258 from rfl]
  refine HCon.of' mix Tryz.func128 rfl Tryz.ntmps128 ZaW ZaX zB (by simp [AV.gl,AV.gl.glL,int]) Zem ?_
  unfold Zaz
  repeat (first|refine zR (ja5 @d1 @okI.eq_1 @unI.eq_1 @unR.eq_1 @unO.eq_1) ?_|exact zU (ja5 @d1 @okI.eq_1 @unI.eq_1 @unR.eq_1 @unO.eq_1))
 have d2:decide ((s:Int)=28)=false:=decide_eq_false zO
 by_cases c3:s<8
 ·rw [show ZnF s = .ret (3+s) by rw [ZnF,if_neg c1,if_neg c2,if_pos c3]]
  refine HCon.of' mix Tryz.func128 rfl Tryz.ntmps128 ZaW ZaX zB (by simp [AV.gl,AV.gl.glL,int]) Zem ?_
  unfold Zaz
  have d3:decide ((s:Int)<8)=true:=decide_eq_true zO
  repeat (first|refine zR (ja7 @d1 @d2 @d3 @okI.eq_1 @unI.eq_1 @unR.eq_1 @unO.eq_1) ?_|exact zU (ja7 @d1 @d2 @d3 @okI.eq_1 @unI.eq_1 @unR.eq_1 @unO.eq_1))
 have d3:decide ((s:Int)<8)=false:=decide_eq_false zO
 rw [show ZnF s=ZeO (3+(4+s % 4)*2^(s / 4-1)) (s / 4-1) by rw [ZnF,if_neg c1,if_neg c2,if_neg c3]]
 obtain ⟨k,hk⟩:∃ k,k=s / 4-1:=⟨_,rfl⟩
 obtain ⟨m,hm⟩:∃ m,m=s % 4:=⟨_,rfl⟩
 obtain ⟨q,hq⟩:∃ q,q=s / 4:=⟨_,rfl⟩
 have e1:(q:Int)-1=(k:Int):=zO
 have hk6:k≤6:=zO
 have hm4:m<4:=zO
 have hp:2^k≤64:=ZaI (n:=k) (m:=6) hk6
 have hz2:(4+m)*2^k≤7*64:=Nat.mul_le_mul zO hp
 obtain ⟨p,hpd⟩:∃ p,p=2^k:=⟨_,rfl⟩
 obtain ⟨z,hz⟩:∃ z,z=(4+m)*2^k:=⟨_,rfl⟩
 have e2:((4:Int)+(m:Int))*2^k=(z:Int):=by rw [hz,Int.natCast_mul,Int.natCast_add,Int.natCast_pow];rfl
 rw [←hk,←hm,←hz]
 rw [←hz] at hz2
 have hA:=Zk2 t most nl b hb i hi out (3+z) k zO zO
 obtain ⟨r,hr⟩:∃ r,r=(ZeO (3+z) k).run (Zae b) i:=⟨_,rfl⟩
 rw [←hr] at hA ⊢
 cases r with
 | ok a j =>
  refine HCon.of' mix Tryz.func128 rfl Tryz.ntmps128 ZaW ZaX zB (by simp [AV.gl,AV.gl.glL,int]) Zem ?_
  unfold Zaz
  repeat (first|refine zR (ja7 @d1 @d2 @d3 hq.symm hm.symm @e1 @e2) ?_|exact zU (ja7 @d1 @d2 @d3 hq.symm hm.symm @e1 @e2))
  refine Zab [(1000,0),(1001,0),(1002,0)] 2000 hA zB zB ?_ ?_ ?_
  iterate 2 (case _=>(first|exact yU BG6|refine yR BG6 ?_))
  repeat (first|refine zR BG12 ?_|exact zU BG12)
 | no e =>
  refine ⟨hA.1,HCon.of' mix Tryz.func128 rfl Tryz.ntmps128 ZaW ZaX zB (by simp [AV.gl,AV.gl.glL,int]) Zem ?_⟩
  unfold Zaz
  repeat (first|refine zR (ja7 @d1 @d2 @d3 hq.symm hm.symm @e1 @e2) ?_|exact zU (ja7 @d1 @d2 @d3 hq.symm hm.symm @e1 @e2))
  refine Zab [(1000,0),(1001,0),(1002,0)] 2000 hA.2 zB zB ?_ ?_ ?_
  iterate 2 (case _=>(first|exact yU BG6|refine yR BG6 ?_))
  repeat (first|refine zR BG13 ?_|exact zU BG13)
theorem Zm4 [Tabs Tryz.prog] (t:Bool) (most:Nat) (nl:Bool) (b:List UInt8) (hb:b.length≤1000000) (i:Nat) (hi:i≤8*b.length) (out:List UInt8) (s:Nat) (hs:s<1000) :
  Ans Tryz.prog Zcn [.op 1000 0 0,int (s:Int)] (unI t most nl b i out) ((Zou s).run (Zae b) i) okI (fun _ j=>unO 0 t most nl b j out) noI 50:=by
 by_cases c1:30≤s
 ·rw [show Zou s = .err 3 by rw [Zou,if_pos c1]]
  refine ⟨by omega,HCon.of' mix Tryz.func129 rfl Tryz.ntmps129 Za1 Za2 zB (by simp [AV.gl,AV.gl.glL,int]) Zem ?_⟩
  unfold ZaL
  have d1:decide ((30:Int)≤(s:Int))=true:=decide_eq_true zO
  repeat (first|refine zR (ja2 @d1 @noI.eq_1) ?_|exact zU (ja2 @d1 @noI.eq_1))
 have d1:decide ((30:Int)≤(s:Int))=false:=decide_eq_false zO
 by_cases c3:s<4
 ·rw [show Zou s = .ret (1+s) by rw [Zou,if_neg c1,if_pos c3]]
  refine HCon.of' mix Tryz.func129 rfl Tryz.ntmps129 Za1 Za2 zB (by simp [AV.gl,AV.gl.glL,int]) Zem ?_
  unfold ZaL
  have d3:decide ((s:Int)<4)=true:=decide_eq_true zO
  repeat (first|refine zR (ja6 @d1 @d3 @okI.eq_1 @unI.eq_1 @unR.eq_1 @unO.eq_1) ?_|exact zU (ja6 @d1 @d3 @okI.eq_1 @unI.eq_1 @unR.eq_1 @unO.eq_1))
 have d3:decide ((s:Int)<4)=false:=decide_eq_false zO
 rw [show Zou s=ZeO (1+(2+s % 2)*2^(s / 2-1)) (s / 2-1) by rw [Zou,if_neg c1,if_neg c3]]
 obtain ⟨k,hk⟩:∃ k,k=s / 2-1:=⟨_,rfl⟩
 obtain ⟨m,hm⟩:∃ m,m=s % 2:=⟨_,rfl⟩
 obtain ⟨q,hq⟩:∃ q,q=s / 2:=⟨_,rfl⟩
 have e1:(q:Int)-1=(k:Int):=zO
 have hk6:k≤13:=zO
 have hm4:m<2:=zO
 have hp:2^k≤8192:=ZaI (n:=k) (m:=13) hk6
 have hz2:(2+m)*2^k≤3*8192:=Nat.mul_le_mul zO hp
 obtain ⟨p,hpd⟩:∃ p,p=2^k:=⟨_,rfl⟩
 obtain ⟨z,hz⟩:∃ z,z=(2+m)*2^k:=⟨_,rfl⟩
 have e2:((2:Int)+(m:Int))*2^k=(z:Int):=by rw [hz,Int.natCast_mul,Int.natCast_add,Int.natCast_pow];rfl
 rw [←hk,←hm,←hz]
 rw [←hz] at hz2
 have hA:=Zk2 t most nl b hb i hi out (1+z) k zO zO
 obtain ⟨r,hr⟩:∃ r,r=(ZeO (1+z) k).run (Zae b) i:=⟨_,rfl⟩
 rw [←hr] at hA ⊢
 cases r with
 | ok a j =>
  refine HCon.of' mix Tryz.func129 rfl Tryz.ntmps129 Za1 Za2 zB (by simp [AV.gl,AV.gl.glL,int]) Zem ?_
  unfold ZaL
  repeat (first|refine zR (ja6 @d1 @d3 hq.symm hm.symm @e1 @e2) ?_|exact zU (ja6 @d1 @d3 hq.symm hm.symm @e1 @e2))
  refine Zab [(1000,0),(1001,0),(1002,0)] 2000 hA zB zB ?_ ?_ ?_
  iterate 2 (case _=>(first|exact yU BG6|refine yR BG6 ?_))
  repeat (first|refine zR BG12 ?_|exact zU BG12)
 | no e =>
  refine ⟨hA.1,HCon.of' mix Tryz.func129 rfl Tryz.ntmps129 Za1 Za2 zB (by simp [AV.gl,AV.gl.glL,int]) Zem ?_⟩
  unfold ZaL
  repeat (first|refine zR (ja6 @d1 @d3 hq.symm hm.symm @e1 @e2) ?_|exact zU (ja6 @d1 @d3 hq.symm hm.symm @e1 @e2))
  refine Zab [(1000,0),(1001,0),(1002,0)] 2000 hA.2 zB zB ?_ ?_ ?_
  iterate 2 (case _=>(first|exact yU BG6|refine yR BG6 ?_))
  repeat (first|refine zR BG13 ?_|exact zU BG13)
def kn:List Nat→Nat→Nat
 | [],_=>0
 | x::r,n=>(if x<n then wt x else 0)+kn r n
theorem ZoG {l:List Nat} {n:Nat}:kn l (n+1)=kn l n+l.count n*wt n:=by
 induction l with
 | nil=>simp [kn]
 | cons x l ih =>
  simp only [kn,ih,List.count_cons]
  by_cases e:x=n
  ·subst e;simp [Nat.add_mul];omega
  ·by_cases e2:x<n
   ·rw [if_pos zO,if_pos e2];simp [e];omega
   ·rw [if_neg zO,if_neg e2];simp [e]
theorem Zzz {l:List Nat} (h:∀ x∈l,x≤15):kn l 16=Zas l:=by
 induction l with
 | nil=>rfl
 | cons x l ih =>
  have:=h x zB
  simp only [kn,Zas,ih fun y hy=>h y (by simp [hy])]
  rw [if_pos zO]
theorem ZA5 {l:List Nat}:kn l 0=0:=by
 induction l with
 | nil=>rfl
 | cons x l ih=>simp only [kn,ih];simp
theorem ZA6 {n:Nat} (h0:n≠0) (h:n≤15):wt n=2^(15-n):=by
 unfold wt;rw [if_neg h0]
 exact Nat.pow_div h zO (x:=2)
theorem Zsv {n:Nat} (h:n<15):2^(15-n)=2*2^(15-(n+1)):=by
 rw [show 15-n=(15-(n+1))+1 by omega,Nat.pow_succ];omega
theorem ZA7 {l:List Nat}:∀ {n:Nat},n≤15→kn l n=fr l n*2^(15-n)
 | 0,_=>by simp [ZA5,fr]
 | n+1,h=>by
  have ih:=ZA7 (l:=l) (n:=n) zO
  rw [ZoG,ih]
  by_cases h0:n=0
  ·subst h0;simp [wt,fr,cn]
  ·rw [ZA6 h0 zO,Zsv (n:=n) zO,fr,cn,if_neg h0,←Nat.add_mul,←Nat.mul_assoc,Nat.mul_comm (fr l n+l.count n) 2]
theorem ZA8 {l:List Nat} {n:Nat} (h:∀ x∈l,x≤15) (hn:n≤15):(fr l n+cn l n)*2^(15-n)≤Zas l:=by
 have mono:∀ m k,kn l m≤kn l (m+k):=fun m k=>by
  induction k with
  | zero=>exact Nat.le_refl _
  | succ k ih=>rw [show m+(k+1)=m+k+1 by omega,ZoG];omega
 have h1:=mono (n+1) (15-n)
 rw [show n+1+(15-n)=16 by omega,Zzz h,ZoG,ZA7 hn] at h1
 by_cases h0:n=0
 ·subst h0;simp [fr,cn]
 ·rw [ZA6 h0 hn] at h1
  rw [cn,if_neg h0,Nat.add_mul];exact h1
theorem ZyV {l:List Nat} (h:∀ x∈l,x≤15):Zas l=fr l 15+cn l 15:=by
 rw [←Zzz h,ZoG,ZA7 (Nat.le_refl _),ZA6 zO (Nat.le_refl _),cn,if_neg zO];simp
theorem Zrz {l:List Nat} {s m:Nat} (hs:s<l.length) (hm:l.getD s 0=m) (h0:m≠0):fr l m≤ZcQ l s∧ZcQ l s-fr l m=(l.take s).count m∧(l.take s).count m<cn l m:=by
 have hc:ZcQ l s=fr l m+(l.take s).count m:=by unfold ZcQ;rw [hm,if_neg h0]
 refine ⟨by omega,by omega,?_⟩
 rw [cn,if_neg h0]
 have:=Zg8 (n:=m) hs
 rw [if_pos hm.symm] at this
 have h2:(l.take (s+1)).count m≤l.count m:=List.Sublist.count_le m (List.take_sublist _ _)
 omega
theorem Zwz {l:List Nat} {s m:Nat} (hm:l.getD s 0=m) (h0:m≠0):∀ {k:Nat},s<k→k≤l.length→(Zd1 l k m).getD ((l.take s).count m) 0=s
 | 0,h,_=>by omega
 | k+1,h,hk=>by
  rw [ZeH h0]
  have hlen:(Zd1 l k m).length=(l.take k).count m:=by rw [Zel zO,if_neg h0]
  by_cases e:s=k
  ·subst e
   rw [if_pos hm]
   simp only [List.getD]
   rw [List.getElem?_append_right zO,hlen];simp
  ·have ih:=Zwz hm h0 (k:=k) zO zO
   split
   ·simp only [List.getD] at ih ⊢
    have hlt:(l.take s).count m<(Zd1 l k m).length:=by
     rw [hlen]
     have h1:=Zg8 (n:=m) (l:=l) (k:=s) zO
     rw [if_pos hm.symm] at h1
     have h2:(l.take (s+1)).count m≤(l.take k).count m:=by
      have:l.take (s+1)=(l.take k).take (s+1):=by rw [List.take_take];congr 1;omega
      rw [this];exact List.Sublist.count_le m (List.take_sublist _ _)
     omega
    rw [List.getElem?_append_left hlt];exact ih
   ·exact ih
theorem ZoH {l:List Nat} {m j:Nat} (h0:m≠0) (hj:j<cn l m):(Zd1 l l.length m).getD j 0<l.length∧l.getD ((Zd1 l l.length m).getD j 0) 0=m∧ZcQ l ((Zd1 l l.length m).getD j 0)=fr l m+j:=by
 have key:∀ k,k≤l.length→∀ j,j<(Zd1 l k m).length→(Zd1 l k m).getD j 0<k∧l.getD ((Zd1 l k m).getD j 0) 0=m∧(l.take ((Zd1 l k m).getD j 0)).count m=j:=by
  intro k
  induction k with
  | zero=>intro _ j hj;rw [Zel zO,if_neg h0] at hj;simp at hj
  | succ k ih =>
   intro hk j hj
   have ih:=ih zO
   have hlen:(Zd1 l k m).length=(l.take k).count m:=by rw [Zel zO,if_neg h0]
   rw [ZeH h0] at hj ⊢
   split
   ·rename_i e
    rw [if_pos e,List.length_append,List.length_singleton] at hj
    by_cases hjl:j<(Zd1 l k m).length
    ·have:=ih j hjl
     have e2:(Zd1 l k m++[k]).getD j 0=(Zd1 l k m).getD j 0:=by simp only [List.getD];rw [List.getElem?_append_left hjl]
     rw [e2]
     exact ⟨by omega,this.2.1,this.2.2⟩
    ·have e2:(Zd1 l k m++[k]).getD j 0=k:=by simp only [List.getD];rw [List.getElem?_append_right zO];simp [show j-(Zd1 l k m).length=0 by omega]
     rw [e2]
     exact ⟨by omega,e,by omega⟩
   ·rename_i e
    rw [if_neg e] at hj
    have:=ih j hj
    exact ⟨by omega,this.2.1,this.2.2⟩
 have h:=key l.length (Nat.le_refl _) j (by rw [Zil];exact hj)
 refine ⟨h.1,h.2.1,?_⟩
 unfold ZcQ
 rw [h.2.1,if_neg h0,h.2.2]
theorem ZrA {l:List Nat} (h15:∀ x∈l,x≤15) (hK:Zas l≤32768) {s m:Nat} (hs:s<l.length) (hm:l.getD s 0=m) (h0:m≠0) (hm15:m≤15):ZcQ l s<2^m:=by
 obtain ⟨h1,h2,h3⟩:=Zrz hs hm h0
 have h4:=ZA8 h15 hm15
 have h5:(ZcQ l s+1)*2^(15-m)≤2^m*2^(15-m):=by
  rw [←Nat.pow_add,show m+(15-m)=15 by omega]
  refine Nat.le_trans (Nat.mul_le_mul_right _ ?_) (Nat.le_trans h4 hK)
  omega
 exact Nat.le_of_mul_le_mul_right h5 (Nat.pow_pos zO)
theorem Zin {l B:List Nat}:∀ (f n v:Nat),(nxt l B f n v).2.2=0→(nxt l B f n v).1<l.length∧n<(nxt l B f n v).2.1
 | 0,n,v,h=>by simp [nxt] at h
 | f+1,n,v,h=>by
  rw [nxt] at h ⊢
  split
  ·rename_i c;rw [if_pos c] at h;simp at h
  ·rename_i c
   rw [if_neg c] at h
   split
   ·rename_i c;rw [if_pos c] at h;simp at h
   ·rename_i c
    rw [if_neg c] at h
    split
    ·rename_i c;exact ⟨(ZoH zO c).1,by simp only;omega⟩
    ·rename_i c
     rw [if_neg c] at h
     have:=Zin f (n+1) _ h
     exact ⟨this.1,by omega⟩
theorem ZwA {b:List UInt8} {most s i j:Nat} {d:List Nat} {out o:List UInt8} (h:(ZuJ most d out s).run (Zae b) i = .ok o j):o.length≤most:=by
 rw [ZuJ,Zak] at h
 cases h1:(ZnF s).run (Zae b) i with
 | no e=>rw [h1] at h;cases h
 | ok n k =>
  rw [h1] at h
  simp only [BR.bnd] at h
  rw [Zak] at h
  cases h2:(ZuI d 15 0 0).run (Zae b) k with
  | no e=>rw [h2] at h;cases h
  | ok t k2 =>
   rw [h2] at h
   simp only [BR.bnd] at h
   rw [Zak] at h
   cases h3:(Zou t).run (Zae b) k2 with
   | no e=>rw [h3] at h;cases h
   | ok z k3 =>
    rw [h3] at h
    simp only [BR.bnd] at h
    split at h
    ·cases h
    ·split at h
     ·cases h
     ·simp only [BT.run,BR.ok.injEq] at h
      rw [←h.1,Ziy];omega
def BG4:=ja5 @unI.eq_1 @unR.eq_1 @rdR.eq_1 @Zaa @Zac
def BG5:=ja8 @unI.eq_1 @unO.eq_1 @unR.eq_1 @rdR.eq_1 @Zaa @Zac @okI.eq_1 @noI.eq_1
def BG7:=ja2 @rdR.eq_1 @Zac
def BG19:=ja4 @unR.eq_1 @rdR.eq_1 @cpy.eq_1 @cpy.eq_2
def BG20:=ja5 @ZbN @ZbO @unR.eq_1 @rdR.eq_1 @Zaa
set_option maxHeartbeats 1000000 in
theorem ZwB [Tabs Tryz.prog] (t:Bool) (most:Nat) (hm:most≤16777216) (nl:Bool) (b:List UInt8) (hb:b.length≤1000000) (i:Nat) (hi:i≤8*b.length) (out:List UInt8) (ho:out.length≤most) (s:Nat) (hs:s<1000) (d:List Nat) (hd:d.length≤320) (hK:Zas d≤32768) :
  Ans Tryz.prog Zd7 [.op 1000 0 0,int (s:Int),.fp (.agg (trR d)) 0] (unI t most nl b i out) ((ZuJ most d out s).run (Zae b) i) (fun _=>int 0) (fun o j=>unO 500 t most nl b j o) (fun e=>int (e:Int)) 600:=by
 rw [ZuJ,Zak]
 have hL:=ZpP t most nl b hb i hi out s hs
 have hLi:=fun a j (h:(ZnF s).run (Zae b) i = .ok a j)=>(Zhb h).2 (by rw [Zad];exact hi)
 have hn58:=fun a j (h:(ZnF s).run (Zae b) i = .ok a j)=>ZA3 h
 obtain ⟨r1,hr1⟩:∃ r,r=(ZnF s).run (Zae b) i:=⟨_,rfl⟩
 rw [←hr1] at hL hLi hn58 ⊢
 cases r1 with
 | no e1 =>
  have de:decide ((e1:Int)=0)=false:=decide_eq_false (by have:=hL.1;omega)
  refine ⟨hL.1,HCon.of' mix Tryz.func92 rfl Tryz.ntmps92 ZaU ZaV zB (by simp only [AV.gl.glL,AV.gl,int,and_true];exact ⟨by omega,trivial,Zan 1 _ ZbA⟩) Zem ?_⟩
  unfold ZaE
  repeat (first|refine zS ?_|exact zT)
  refine Zab [(1000,0),(1001,0),(1002,0)] 2000 hL.2 zB zB ?_ ?_ ?_
  iterate 2 (case _=>(first|exact yU BG4|refine yR BG4 ?_))
  repeat (first|refine zR (ja8 @unI.eq_1 @unO.eq_1 @unR.eq_1 @rdR.eq_1 @Zaa @Zac @okI.eq_1 (ja2 @noI.eq_1 @de)) ?_|exact zU (ja8 @unI.eq_1 @unO.eq_1 @unR.eq_1 @rdR.eq_1 @Zaa @Zac @okI.eq_1 (ja2 @noI.eq_1 @de)))
 | ok n j =>
  have hj:=hLi n j rfl
  have hn:=hn58 n j rfl
  rw [Zad] at hj
  clear hr1 hLi hn58
  simp only [BR.bnd]
  rw [Zak,ZmD]
  have hfc:=Zha (l:=d) (B:=(Zae b).drop j) 15 0 0 (Nat.zero_le _)
  have hsy:=Zin (l:=d) (B:=(Zae b).drop j) 15 0 0
  have hN:=ZjC d hd hK nl b hb j hj _ rfl
  rw [List.length_drop,Zad] at hfc
  obtain ⟨⟨sy,m,e⟩,hr2⟩:∃ r,r=nxt d ((Zae b).drop j) 15 0 0:=⟨_,rfl⟩
  rw [←hr2] at hfc hsy hN ⊢
  simp only at hfc hsy hN
  clear hr2
  by_cases c2:e=0
  ·subst c2
   have hsy:=hsy rfl
   obtain ⟨q,hq⟩:∃ q,q=j+m:=⟨_,rfl⟩
   have hq8:q≤8*b.length:=zO
   simp only [Zwt,if_true,BR.bnd]
   rw [←hq] at hN ⊢
   rw [Zak]
   have hD:=Zm4 t most nl b hb q hq8 out sy zO
   have hDi:=fun a j (h:(Zou sy).run (Zae b) q = .ok a j)=>(Zhb h).2 (by rw [Zad];exact hq8)
   have hD8:=fun a j (h:(Zou sy).run (Zae b) q = .ok a j)=>ZA4 h
   obtain ⟨r3,hr3⟩:∃ r,r=(Zou sy).run (Zae b) q:=⟨_,rfl⟩
   rw [←hr3] at hD hDi hD8 ⊢
   cases r3 with
   | no e3 =>
    have de:decide ((e3:Int)=0)=false:=decide_eq_false (by have:=hD.1;omega)
    refine ⟨hD.1,HCon.of' mix Tryz.func92 rfl Tryz.ntmps92 ZaU ZaV zB (by simp only [AV.gl.glL,AV.gl,int,and_true];exact ⟨by omega,trivial,Zan 1 _ ZbA⟩) Zem ?_⟩
    unfold ZaE
    repeat (first|refine zS ?_|exact zT)
    refine Zab [(1000,0),(1001,0),(1002,0)] 2000 hL zB zB ?_ ?_ ?_
    iterate 2 (case _=>(first|exact yU BG4|refine yR BG4 ?_))
    repeat (first|refine zR BG5 ?_|exact zU BG5)
    refine Zab [(1001,0)] 3000 hN zB zB ?_ ?_ ?_
    iterate 2 (case _=>(first|exact yU BG7|refine yR BG7 ?_))
    repeat (first|refine zR BG5 ?_|exact zU BG5)
    refine Zab [(1000,0),(1001,0),(1002,0)] 4000 hD.2 zB zB ?_ ?_ ?_
    iterate 2 (case _=>(first|exact yU BG4|refine yR BG4 ?_))
    repeat (first|refine zR (ja8 @unI.eq_1 @unO.eq_1 @unR.eq_1 @rdR.eq_1 @Zaa @Zac @okI.eq_1 (ja2 @noI.eq_1 @de)) ?_|exact zU (ja8 @unI.eq_1 @unO.eq_1 @unR.eq_1 @rdR.eq_1 @Zaa @Zac @okI.eq_1 (ja2 @noI.eq_1 @de)))
   | ok k j2 =>
    have hj2:=hDi k j2 rfl
    have hk:=hD8 k j2 rfl
    rw [Zad] at hj2
    clear hr3 hDi hD8
    simp only [BR.bnd]
    by_cases c3:out.length<k
    ·rw [if_pos c3]
     have d3:decide ((out.length:Int)<(k:Int))=true:=decide_eq_true zO
     refine ⟨by omega,HCon.of' mix Tryz.func92 rfl Tryz.ntmps92 ZaU ZaV zB (by simp only [AV.gl.glL,AV.gl,int,and_true];exact ⟨by omega,trivial,Zan 1 _ ZbA⟩) Zem ?_⟩
     unfold ZaE
     repeat (first|refine zS ?_|exact zT)
     refine Zab [(1000,0),(1001,0),(1002,0)] 2000 hL zB zB ?_ ?_ ?_
     iterate 2 (case _=>(first|exact yU BG4|refine yR BG4 ?_))
     repeat (first|refine zR BG5 ?_|exact zU BG5)
     refine Zab [(1001,0)] 3000 hN zB zB ?_ ?_ ?_
     iterate 2 (case _=>(first|exact yU BG7|refine yR BG7 ?_))
     repeat (first|refine zR BG5 ?_|exact zU BG5)
     refine Zab [(1000,0),(1001,0),(1002,0)] 4000 hD zB zB ?_ ?_ ?_
     iterate 2 (case _=>(first|exact yU BG4|refine yR BG4 ?_))
     repeat (first|refine zR (ja8 @unI.eq_1 @unO.eq_1 @unR.eq_1 @rdR.eq_1 @Zaa @Zac @okI.eq_1 (ja2 @noI.eq_1 @d3)) ?_|exact zU (ja8 @unI.eq_1 @unO.eq_1 @unR.eq_1 @rdR.eq_1 @Zaa @Zac @okI.eq_1 (ja2 @noI.eq_1 @d3)))
    ·rw [if_neg c3]
     have d3:decide ((out.length:Int)<(k:Int))=false:=decide_eq_false zO
     by_cases c4:most<out.length+n
     ·rw [if_pos c4]
      have d4:decide (((most-out.length:Nat):Int)<(n:Int))=true:=decide_eq_true zO
      refine ⟨by omega,HCon.of' mix Tryz.func92 rfl Tryz.ntmps92 ZaU ZaV zB (by simp only [AV.gl.glL,AV.gl,int,and_true];exact ⟨by omega,trivial,Zan 1 _ ZbA⟩) Zem ?_⟩
      unfold ZaE
      repeat (first|refine zS ?_|exact zT)
      refine Zab [(1000,0),(1001,0),(1002,0)] 2000 hL zB zB ?_ ?_ ?_
      iterate 2 (case _=>(first|exact yU BG4|refine yR BG4 ?_))
      repeat (first|refine zR BG5 ?_|exact zU BG5)
      refine Zab [(1001,0)] 3000 hN zB zB ?_ ?_ ?_
      iterate 2 (case _=>(first|exact yU BG7|refine yR BG7 ?_))
      repeat (first|refine zR BG5 ?_|exact zU BG5)
      refine Zab [(1000,0),(1001,0),(1002,0)] 4000 hD zB zB ?_ ?_ ?_
      iterate 2 (case _=>(first|exact yU BG4|refine yR BG4 ?_))
      repeat (first|refine zR (ja8 @unI.eq_1 @unO.eq_1 @unR.eq_1 @rdR.eq_1 @Zaa @Zac @okI.eq_1 (ja2 @noI.eq_1 @d3)) ?_|exact zU (ja8 @unI.eq_1 @unO.eq_1 @unR.eq_1 @rdR.eq_1 @Zaa @Zac @okI.eq_1 (ja2 @noI.eq_1 @d3)))
      refine Zab [(1000,0),(1001,0),(1002,0)] 5000 (Zhd t most hm nl b j2 out ho) zB zB ?_ ?_ ?_
      iterate 2 (case _=>(first|exact yU BG4|refine yR BG4 ?_))
      repeat (first|refine zR (ja8 @unI.eq_1 @unO.eq_1 @unR.eq_1 @rdR.eq_1 @Zaa @Zac @okI.eq_1 (ja2 @noI.eq_1 @d4)) ?_|exact zU (ja8 @unI.eq_1 @unO.eq_1 @unR.eq_1 @rdR.eq_1 @Zaa @Zac @okI.eq_1 (ja2 @noI.eq_1 @d4)))
     ·rw [if_neg c4]
      have d4:decide (((most-out.length:Nat):Int)<(n:Int))=false:=decide_eq_false zO
      refine HCon.of' mix Tryz.func92 rfl Tryz.ntmps92 ZaU ZaV zB (by simp only [AV.gl.glL,AV.gl,int,and_true];exact ⟨by omega,trivial,Zan 1 _ ZbA⟩) Zem ?_
      unfold ZaE
      repeat (first|refine zS ?_|exact zT)
      refine Zab [(1000,0),(1001,0),(1002,0)] 2000 hL zB zB ?_ ?_ ?_
      iterate 2 (case _=>(first|exact yU BG4|refine yR BG4 ?_))
      repeat (first|refine zR BG5 ?_|exact zU BG5)
      refine Zab [(1001,0)] 3000 hN zB zB ?_ ?_ ?_
      iterate 2 (case _=>(first|exact yU BG7|refine yR BG7 ?_))
      repeat (first|refine zR BG5 ?_|exact zU BG5)
      refine Zab [(1000,0),(1001,0),(1002,0)] 4000 hD zB zB ?_ ?_ ?_
      iterate 2 (case _=>(first|exact yU BG4|refine yR BG4 ?_))
      repeat (first|refine zR (ja8 @unI.eq_1 @unO.eq_1 @unR.eq_1 @rdR.eq_1 @Zaa @Zac @okI.eq_1 (ja2 @noI.eq_1 @d3)) ?_|exact zU (ja8 @unI.eq_1 @unO.eq_1 @unR.eq_1 @rdR.eq_1 @Zaa @Zac @okI.eq_1 (ja2 @noI.eq_1 @d3)))
      refine Zab [(1000,0),(1001,0),(1002,0)] 5000 (Zhd t most hm nl b j2 out ho) zB zB ?_ ?_ ?_
      iterate 2 (case _=>(first|exact yU BG4|refine yR BG4 ?_))
      repeat (first|refine zR (ja8 @unI.eq_1 @unO.eq_1 @unR.eq_1 @rdR.eq_1 @Zaa @Zac @okI.eq_1 (ja2 @noI.eq_1 @d4)) ?_|exact zU (ja8 @unI.eq_1 @unO.eq_1 @unR.eq_1 @rdR.eq_1 @Zaa @Zac @okI.eq_1 (ja2 @noI.eq_1 @d4)))
      refine SWp.loop (α:=Nat × Nat) (fun x=>mk 77 (202+x.1) [(0,.op 1000 0 0),(9,int (k:Int)),(51,int (n:Int)),(52,int (x.1:Int))] [(1000,0,.row false (unR t most x.2 (out.length+x.1))),(1001,0,.row false (rdR nl b j2)),(1002,x.2,.row (nl0 (out.length+x.1)) ((cpy out k x.1).map u8))])
       (fun x=>x.1≤n) (fun x=>n-x.1) (0,0) (Nat.zero_le _) (Zal rfl ?_ ?_ ?_) ?_
      ·exact Nat.le_refl _
      iterate 2 (case _=>(first|exact yU BG19|refine yR BG19 ?_))
      rintro ⟨x,g⟩ hx -
      simp only at hx
      have hcl:=Ziy (k:=k) (n:=x) (out:=out)
      have hcs:=Zow (k:=k) (n:=x) (out:=out)
      obtain ⟨c,hc⟩:∃ c,c=cpy out k x:=⟨_,rfl⟩
      rw [←hc] at hcl hcs ⊢
      rw [hcl] at hcs
      repeat (first|refine zS ?_|exact zT)
      refine SWp.cond rfl (fun h=>?_) (fun h=>?_)
      ·simp only [decide_eq_true_eq] at h
       obtain ⟨z,hz⟩:∃ z,z=out.length+x-k:=⟨_,rfl⟩
       have ez:(out.length:Int)+(x:Int)-(k:Int)=(z:Int):=zO
       rw [←hz] at hcs
       obtain ⟨v,hv⟩:∃ v,v=c.getD z 0:=⟨_,rfl⟩
       rw [←hv] at hcs
       have hn0:nl0 (out.length+(x+1))=false:=Zci zO
       repeat (first|refine zR (ja5 @unR.eq_1 @hcl @ez hv.symm @Zhc) ?_|exact zU (ja5 @unR.eq_1 @hcl @ez hv.symm @Zhc))
       refine At.of (x+1,202+x) (by simp only;omega) (by simp only;omega) rfl rfl ?_ ?_ ?_
       ·simp only;omega
       iterate 2 (case _=>(first|exact yU (ja4 @unR.eq_1 @hcs @hn0 @Nat.add_assoc)|refine yR (ja4 @unR.eq_1 @hcs @hn0 @Nat.add_assoc) ?_))
      ·simp only [decide_eq_false_iff_not] at h
       obtain rfl:x=n:=zO
       refine SWp.le (Zal (N:=77) (gc:=500) (l:=[]) (h:=[(1000,0,.row false (unR t most g (out.length+x))),(1001,0,.row false (rdR nl b j2)),(1002,g,.row (nl0 (out.length+x)) (c.map u8))]) rfl ?_ ?_ ?_) ?_
       ·simp only;omega
       iterate 2 (case _=>(first|exact yT|refine yS ?_))
       refine SWp.renew 1002 g (o:=.row (nl0 (out.length+x)) (c.map u8)) yT ?_
       refine SWp.le (Zal (N:=77) (gc:=501) (l:=[]) (h:=[(1000,0,.row false (unR t most 500 (out.length+x))),(1001,0,.row false (rdR nl b j2)),(1002,500,.row (nl0 (out.length+x)) (c.map u8))]) rfl ?_ ?_ ?_) ?_
       ·exact Nat.le_refl _
       iterate 2 (case _=>(first|exact yU BG20|refine yR BG20 ?_))
       repeat (first|refine zR (ja5 @unO.eq_1 @unR.eq_1 @rdR.eq_1 @hcl hc.symm) ?_|exact zU (ja5 @unO.eq_1 @unR.eq_1 @rdR.eq_1 @hcl hc.symm))
  ·simp only [Zwt,if_neg c2,BR.bnd]
   have he:e≠0∧e≤10:=zO
   have de:decide ((e:Int)=0)=false:=decide_eq_false zO
   refine ⟨he,HCon.of' mix Tryz.func92 rfl Tryz.ntmps92 ZaU ZaV zB (by simp only [AV.gl.glL,AV.gl,int,and_true];exact ⟨by omega,trivial,Zan 1 _ ZbA⟩) Zem ?_⟩
   unfold ZaE
   repeat (first|refine zS ?_|exact zT)
   refine Zab [(1000,0),(1001,0),(1002,0)] 2000 hL zB zB ?_ ?_ ?_
   iterate 2 (case _=>(first|exact yU BG4|refine yR BG4 ?_))
   repeat (first|refine zR BG5 ?_|exact zU BG5)
   refine Zab [(1001,0)] 3000 hN zB zB ?_ ?_ ?_
   iterate 2 (case _=>(first|exact yU BG7|refine yR BG7 ?_))
   repeat (first|refine zR (ja8 @unI.eq_1 @unO.eq_1 @unR.eq_1 @rdR.eq_1 @Zaa @Zac @okI.eq_1 (ja2 @noI.eq_1 @de)) ?_|exact zU (ja8 @unI.eq_1 @unO.eq_1 @unR.eq_1 @rdR.eq_1 @Zaa @Zac @okI.eq_1 (ja2 @noI.eq_1 @de)))
theorem ZwC [Tabs Tryz.prog] (v n:Nat) (hv:v<32768) (hn:n≤15):Con Tryz.prog Zgh [.sc (.int .i64 (v:Int)),.sc (.int .i64 (n:Int))] (.sl (nl0 n) none ((Zor v n).map nA)):=by
 refine Con.of' mix Tryz.func133 rfl Tryz.ntmps133 Zkc Zkd zB rfl (by simp only [AV.free,Zaj]) ?_
 unfold Zgu
 repeat (first|refine zS ?_|exact zT)
 refine SWp.adopt 5 none yT ?_
 refine SWp.loop (α:=Nat × Nat × Nat) (fun x=>mk 22 x.2.2 [(0,.sc (.int .i64 (v:Int))),(5,.own 5 x.2.1 none 0 x.1),(6,int ((n:Int)-1-x.1))] [(5,x.2.1,.row (nl0 x.1) (((Zor v n).take x.1).map nA))])
  (fun x=>x.1≤n) (fun x=>n-x.1) (0,0,1) (Nat.zero_le _) (Zal rfl ?_ ?_ ?_) ?_
 ·exact Nat.le_refl _
 iterate 2 (case _=>(first|exact yU (ja2 @Zay @List.take_zero.{0})|refine yR (ja2 @Zay @List.take_zero.{0}) ?_))
 rintro ⟨k,g,c⟩ hk -
 simp only at hk
 have hlk:((Zor v n).take k).length=k:=by rw [List.length_take,Zdp];omega
 repeat (first|refine zS ?_|exact zT)
 refine SWp.cond rfl (fun h=>?_) (fun h=>?_)
 ·simp only [decide_eq_true_eq] at h
  have hkn:k<n:=zO
  have hs:=Zwm (v:=v) hkn
  obtain ⟨j,hj⟩:∃ j,j=n-1-k:=⟨_,rfl⟩
  have hj2:(n:Int)-1-(k:Int)=(j:Int):=zO
  have hj3:j≤15:=zO
  have hjw:IntKind.u64.wrap (j:Int)=(j:Int):=Zcv zO zO
  obtain ⟨y,hy⟩:∃ y,y=v / 2^j:=⟨_,rfl⟩
  rw [←hj,←hy] at hs
  have hyv:y<32768:=by rw [hy];exact Nat.lt_of_le_of_lt (Nat.div_le_self _ _) hv
  repeat (first|refine zR (ja5 @hj2 @hjw hy.symm @hlk iR) ?_|exact zU (ja5 @hj2 @hjw hy.symm @hlk iR))
  refine At.of (k+1,c,c+1) (by simp only;omega) (by simp only;omega) rfl rfl (Nat.le_refl _) ?_ ?_
  ·(first|exact yT|refine yS ?_)
   omega
  ·(first|exact yU (ja3 @hs @Zaw @nA.eq_1)|refine yR (ja3 @hs @Zaw @nA.eq_1) ?_)
 ·simp only [decide_eq_false_iff_not] at h
  obtain rfl:k=n:=zO
  have ht:(Zor v k).take k=Zor v k:=List.take_of_length_le (by rw [Zdp];exact Nat.le_refl _)
  have hl:=Zdp (v:=v) (n:=k)
  rw [ht]
  repeat (first|refine zR (ja2 iR @hl) ?_|exact zU (ja2 iR @hl))
def hd (a b:List Nat):Bool:=decide (a.length≤b.length)&&decide (∀ i,i<a.length→a.getD i 0=b.getD i 0)
theorem ZnI [Tabs Tryz.prog] (nla nlb:Bool) (a b:List Nat) (ha:a.length≤1000) (hb:b.length≤1000000):Con Tryz.prog Zde [.sl nla none (a.map nA),.sl nlb none (b.map nA)] (boo (hd a b)):=by
 refine Con.of' mix Tryz.func134 rfl Tryz.ntmps134 Zju Zjv zB (by simp only [AV.free,AV.free.freeL,Zaj,Bool.and_self]) rfl ?_
 unfold ZfT
 by_cases c1:b.length<a.length
 ·have d1:decide ((b.length:Int)<(a.length:Int))=true:=decide_eq_true zO
  have hh:hd a b=false:=by unfold hd;rw [decide_eq_false zO];rfl
  repeat (first|refine zR (ja2 @d1 @hh) ?_|exact zU (ja2 @d1 @hh))
 have d1:decide ((b.length:Int)<(a.length:Int))=false:=decide_eq_false zO
 repeat (first|refine zR @d1 ?_|exact zU @d1)
 refine SWp.loop (α:=Nat) (fun k=>mk 26 0 [(0,.sl nla none (a.map nA)),(1,.sl nlb none (b.map nA)),(5,int k)] [])
  (fun k=>k≤a.length∧∀ i,i<k→a.getD i 0=b.getD i 0) (fun k=>a.length-k) 0 ⟨Nat.zero_le _,fun _ h=>by omega⟩ (Zal rfl ?_ ?_ ?_) ?_
 ·exact Nat.le_refl _
 iterate 2 (case _=>(first|exact yT|refine yS ?_))
 rintro k ⟨hk,hall⟩ -
 repeat (first|refine zS ?_|exact zT)
 refine SWp.cond rfl (fun h=>?_) (fun h=>?_)
 ·simp only [decide_eq_true_eq] at h
  have hka:k<a.length:=zO
  have hkb:k<b.length:=zO
  by_cases e:a.getD k 0=b.getD k 0
  ·have de:decide (((a.getD k 0:Nat):Int)=((b.getD k 0:Nat):Int))=true:=decide_eq_true zO
   repeat (first|refine zR (ja2 iR @de) ?_|exact zU (ja2 iR @de))
   refine At.of (k+1) ⟨by omega,fun i hi=>?_⟩ zO rfl rfl (Nat.le_refl _) ?_ ?_
   ·by_cases e2:i=k
    ·subst e2;exact e
    ·exact hall i zO
   iterate 2 (case _=>(first|exact yT|refine yS ?_))
  ·have de:decide (((a.getD k 0:Nat):Int)=((b.getD k 0:Nat):Int))=false:=decide_eq_false zO
   have hh:hd a b=false:=by
    unfold hd
    rw [decide_eq_false (p:=∀ i,i<a.length→a.getD i 0=b.getD i 0) (fun h=>e (h k hka))];simp
   repeat (first|refine zR (ja3 iR @de @hh) ?_|exact zU (ja3 iR @de @hh))
 ·simp only [decide_eq_false_iff_not] at h
  obtain rfl:k=a.length:=zO
  have hh:hd a b=true:=by unfold hd;rw [decide_eq_true zO,decide_eq_true hall];rfl
  repeat (first|refine zR @hh ?_|exact zU @hh)
def Zm5 (B:List Nat):Nat→Nat
 | 0=>0
 | n+1=>2*Zm5 B n+B.getD n 0
theorem ZrB {B:List Nat} (h:∀ x∈B,x<2) (i:Nat):B.getD i 0<2:=by
 by_cases hi:i<B.length
 ·have:B.getD i 0=B[i]:=by simp [List.getD,List.getElem?_eq_getElem hi]
  rw [this];exact h _ (List.getElem_mem hi)
 ·simp [List.getD,List.getElem?_eq_none (by omega:B.length≤i)]
theorem ZwD {B:List Nat} (h:∀ x∈B,x<2):∀ n,Zm5 B n<2^n
 | 0=>by simp [Zm5]
 | n+1=>by
  have h1:=ZwD h n
  have h2:=ZrB h n
  simp only [Zm5,Nat.pow_succ];omega
theorem Zsw {B:List Nat} (h:∀ x∈B,x<2) (j:Nat):∀ d,Zm5 B (j+d) / 2^d=Zm5 B j
 | 0=>by simp
 | d+1=>by
  have h1:=Zsw h j d
  have h2:=ZrB h (j+d)
  rw [Nat.pow_succ,Nat.mul_comm,←Nat.div_div_eq_div_mul]
  have:Zm5 B (j+(d+1)) / 2=Zm5 B (j+d):=by show (2*Zm5 B (j+d)+B.getD (j+d) 0) / 2=_;omega
  rw [this,h1]
theorem ZlW {c n i:Nat} (h:i<n):(Zor c n).getD i 0=c / 2^(n-1-i) % 2:=by simp [Zor,List.getD,h]
theorem ZwE {B:List Nat} (h:∀ x∈B,x<2) {c n:Nat} (hc:c<2^n):(∀ i,i<n→c / 2^(n-1-i) % 2=B.getD i 0)↔c=Zm5 B n:=by
 constructor
 ·intro ha
  have key:∀ j,j≤n→c / 2^(n-j)=Zm5 B j:=by
   intro j
   induction j with
   | zero=>intro _;rw [Nat.sub_zero,Nat.div_eq_of_lt hc];rfl
   | succ j ih =>
    intro hj
    have ih:=ih zO
    have:=ha j zO
    rw [show n-1-j=n-(j+1) by omega] at this
    rw [show n-j=(n-(j+1))+1 by omega,Nat.pow_succ,←Nat.div_div_eq_div_mul] at ih
    simp only [Zm5];omega
  have:=key n (Nat.le_refl _)
  simpa using this
 ·rintro rfl i hi
  have h1:=Zsw h (i+1) (n-1-i)
  rw [show i+1+(n-1-i)=n by omega] at h1
  rw [h1]
  have:=ZrB h i
  show (2*Zm5 B i+B.getD i 0) % 2=_
  omega
theorem ZCK {B:List Nat} (h:∀ x∈B,x<2) {c n:Nat} (hc:c<2^n) (hn:n≤B.length):hd (Zor c n) B=decide (c=Zm5 B n):=by
 unfold hd
 rw [Zdp,decide_eq_true hn,Bool.true_and]
 refine decide_eq_decide.2 ?_
 rw [←ZwE h hc]
 constructor
 ·intro ha i hi;have:=ha i hi;rwa [ZlW hi] at this
 ·intro ha i hi;rw [ZlW hi];exact ha i hi
theorem ZwF {B:List Nat} (h:∀ x∈B,x<2) {c n m:Nat} (hc:c<2^m) (hn:n≤B.length):hd (B.take n) (Zor c m)=decide (n≤m∧c / 2^(m-n)=Zm5 B n):=by
 unfold hd
 rw [Zdp,List.length_take,Nat.min_eq_left hn]
 by_cases hm:n≤m
 ·rw [decide_eq_true hm,Bool.true_and]
  refine decide_eq_decide.2 ?_
  have hc2:c / 2^(m-n)<2^n:=by
   rw [Nat.div_lt_iff_lt_mul (Nat.pow_pos zO),←Nat.pow_add,show n+(m-n)=m by omega];exact hc
  rw [←ZwE h hc2]
  have e:∀ i,i<n→c / 2^(m-n) / 2^(n-1-i) % 2=c / 2^(m-1-i) % 2:=fun i hi=>by
   rw [Nat.div_div_eq_div_mul,←Nat.pow_add,show m-n+(n-1-i)=m-1-i by omega]
  have e2:∀ i,i<n→(B.take n).getD i 0=B.getD i 0:=fun i hi=>by simp only [List.getD];rw [List.getElem?_take,if_pos hi]
  constructor
  ·intro ha
   refine ⟨hm,fun i hi=>?_⟩
   have:=ha i hi
   rw [e2 i hi,ZlW zO] at this
   rw [e i hi,this]
  ·rintro ⟨_,ha⟩ i hi
   rw [e2 i hi,ZlW zO,←e i hi,ha i hi]
 ·rw [decide_eq_false hm,Bool.false_and,decide_eq_false (fun h=>hm h.1)]
def bgn (l B:List Nat) (n k:Nat):Bool:=(List.range k).any fun j=>decide (l.getD j 0≠0)&&hd (B.take n) (Zor (ZcQ l j) (l.getD j 0))
theorem ZyW {l B:List Nat} {n k:Nat}:bgn l B n (k+1)=(bgn l B n k || (decide (l.getD k 0≠0)&&hd (B.take n) (Zor (ZcQ l k) (l.getD k 0)))):=by
 simp [bgn,List.range_succ,List.any_append]
theorem ZA9 {l:List Nat} (h15:∀ x∈l,x≤15) (hK:Zas l≤32768) {B:List Nat} (hB:∀ x∈B,x<2) {n v:Nat} (hn:n≤B.length) (hn15:n≤15) (hv:v=Zm5 B n) (hF:fr l n+cn l n≤v):bgn l B n l.length=decide (v*2^(15-n)<Zas l):=by
 have p15:∀ j,j<l.length→l.getD j 0≤15:=fun j hj=>by
  have:l.getD j 0=l[j]:=by simp [List.getD,List.getElem?_eq_getElem hj]
  rw [this];exact h15 _ (List.getElem_mem hj)
 by_cases c:v*2^(15-n)<Zas l
 ·rw [decide_eq_true c]
  have key:∀ d,n+d≤15→(fr l (n+d)+cn l (n+d))*2^(15-(n+d))≤v*2^(15-n)∨∃ m,n<m∧m≤15∧fr l m≤v*2^(m-n)∧v*2^(m-n)<fr l m+cn l m:=by
   intro d
   induction d with
   | zero=>intro _;exact .inl (Nat.mul_le_mul_right _ hF)
   | succ d ih =>
    intro hd
    rcases ih zO with h | h
    ·by_cases q:(fr l (n+(d+1))+cn l (n+(d+1)))*2^(15-(n+(d+1)))≤v*2^(15-n)
     ·exact .inl q
     ·right
      have e:v*2^(15-n)=v*2^(n+(d+1)-n)*2^(15-(n+(d+1))):=by
       rw [Nat.mul_assoc,←Nat.pow_add];congr 2;omega
      refine ⟨n+(d+1),by omega,hd,?_,?_⟩
      ·have h2:fr l (n+(d+1))*2^(15-(n+(d+1)))≤v*2^(15-n):=by
        have:fr l (n+(d+1))=2*(fr l (n+d)+cn l (n+d)):=rfl
        have hp:=Zsv (n:=n+d) zO
        rw [this,Nat.mul_comm 2,Nat.mul_assoc]
        rw [hp] at h
        exact h
       rw [e] at h2
       exact Nat.le_of_mul_le_mul_right h2 (Nat.pow_pos zO)
      ·have h2:v*2^(15-n)<(fr l (n+(d+1))+cn l (n+(d+1)))*2^(15-(n+(d+1))):=zO
       rw [e] at h2
       exact Nat.lt_of_mul_lt_mul_right h2
    ·exact .inr h
  rcases key (15-n) zO with h | ⟨m,hm1,hm2,hm3,hm4⟩
  ·rw [show n+(15-n)=15 by omega,Nat.sub_self,Nat.pow_zero,Nat.mul_one,←ZyV h15] at h
   omega
  ·have hin:=ZoH (l:=l) (m:=m) (j:=v*2^(m-n)-fr l m) zO zO
   obtain ⟨s,hs⟩:∃ s,s=(Zd1 l l.length m).getD (v*2^(m-n)-fr l m) 0:=⟨_,rfl⟩
   rw [←hs] at hin
   obtain ⟨a1,a2,a3⟩:=hin
   have hlt:=ZrA h15 hK a1 a2 zO hm2
   unfold bgn
   rw [List.any_eq_true]
   refine ⟨s,List.mem_range.2 a1,?_⟩
   rw [a2,ZwF hB hlt hn,decide_eq_true zO,Bool.true_and]
   refine decide_eq_true ⟨by omega,?_⟩
   rw [a3,show fr l m+(v*2^(m-n)-fr l m)=v*2^(m-n) by omega,Nat.mul_div_cancel _ (Nat.pow_pos zO),hv]
 ·rw [decide_eq_false c]
  unfold bgn
  rw [List.any_eq_false]
  intro j hj
  have hj:=List.mem_range.1 hj
  by_cases h0:l.getD j 0=0
  ·simp only [h0];simp
  ·have hlt:=ZrA h15 hK hj rfl h0 (p15 j hj)
   rw [decide_eq_true h0,Bool.true_and,ZwF hB hlt hn]
   intro hd
   obtain ⟨a1,a2⟩:=of_decide_eq_true hd
   apply c
   obtain ⟨b1,b2,b3⟩:=Zrz hj rfl h0
   have h4:=ZA8 (l:=l) h15 (p15 j hj)
   have h5:v*2^(l.getD j 0-n)≤ZcQ l j:=by rw [hv,←a2];exact Nat.div_mul_le_self _ _
   have e:v*2^(15-n)=v*2^(l.getD j 0-n)*2^(15-l.getD j 0):=by
    have:=p15 j hj
    rw [Nat.mul_assoc,←Nat.pow_add];congr 2;omega
   rw [e]
   refine Nat.lt_of_le_of_lt (Nat.mul_le_mul_right _ h5) (Nat.lt_of_lt_of_le (Nat.mul_lt_mul_of_pos_right ?_ (Nat.pow_pos zO)) h4)
   omega
def Zkm (nb:Bool) (B:List Nat) (r:Nat × Nat × Nat):AV:=if r.2.2=2 then .sc (.slice none 0 0) else .sl nb none ((B.drop r.2.1).map nA)
def BG14:=ja2 iR @Zkm.eq_1
set_option maxHeartbeats 1000000 in
theorem Zur [Tabs Tryz.prog] (l:List Nat) (hl:l.length≤320) (h15:∀ x∈l,x≤15) (hK:Zas l≤32768) (nl em nb:Bool) (B:List Nat) (hBl:B.length≤1000) (hB:∀ x∈B,x<2) (r:Nat × Nat × Nat) (hr:nxt l B 15 0 0=r) :
  Con Tryz.prog Zfv [.sl nl none (l.map nA),.sl em none ((Zf1 l).map nA),.sl nb none (B.map nA)] (.agg [.sc (.int .i64 (r.1:Int)),Zkm nb B r,.sc (.int .i64 (r.2.2:Int))]):=by
 obtain ⟨C,hC⟩:∃ C,C=Zf1 l:=⟨_,rfl⟩
 have hCl:C.length=l.length:=by rw [hC,Zkk]
 have hCs:∀ s,s<l.length→C.getD s 0=ZcQ l s:=fun s hs=>by
  rw [hC];simp only [Zf1,List.getD,List.getElem?_map,List.getElem?_range hs,Option.map_some,Option.getD_some]
 rw [←hC]
 refine Con.of' mix Tryz.func96 rfl Tryz.ntmps96 Zjo Zjp zB (by simp only [AV.free,AV.free.freeL,Zaj,Bool.and_self]) ?_ ?_
 ·have:(Zkm nb B r).free=true:=by unfold Zkm;split <;> simp only [AV.free,Zaj]
  simp only [AV.free,AV.free.freeL,this,Bool.and_self]
 unfold ZfQ
 repeat (first|refine zS ?_|exact zT)
 refine SWp.loop (α:=Nat × Nat) (fun x=>mk 73 1 [(0,.sl nl none (l.map nA)),(1,.sl em none (C.map nA)),(2,.sl nb none (B.map nA)),(6,.op 6 0 0),(7,int ((x.1+1:Nat):Int))] [(6,0,.row false [.sc (.int .i64 0),.sc (.slice none 0 0),.sc (.int .i64 0)])])
  (fun x=>x.1≤15∧x.1≤B.length∧x.2=Zm5 B x.1∧fr l (x.1+1)≤2*x.2∧nxt l B (15-x.1) x.1 x.2=r) (fun x=>15-x.1) (0,0) ⟨Nat.zero_le _,Nat.zero_le _,rfl,by simp [fr,cn],hr⟩ (Zal rfl ?_ ?_ ?_) ?_
 ·exact Nat.le_refl _
 iterate 2 (case _=>(first|exact yT|refine yS ?_))
 rintro ⟨p,v⟩ ⟨hp,hpB,hv,hF,hx⟩ -
 simp only at hp hpB hv hF hx
 obtain ⟨n,hn⟩:∃ n,n=p+1:=⟨_,rfl⟩
 rw [←hn] at hF
 rw [←hn]
 repeat (first|refine zS ?_|exact zT)
 refine SWp.cond rfl (fun h=>?_) (fun h=>?_)
 ·simp only [decide_eq_true_eq] at h
  have hn15:n≤15:=zO
  obtain ⟨f,hf⟩:∃ f,15-p=f+1:=⟨14-p,by omega⟩
  rw [hf,nxt,←hn] at hx
  by_cases c0:B.length<n
  ·rw [if_pos zO] at hx
   have d0:decide ((B.length:Int)<(n:Int))=true:=decide_eq_true zO
   subst hx
   repeat (first|refine zR (ja2 @d0 @Zkm.eq_1) ?_|exact zU (ja2 @d0 @Zkm.eq_1))
  have d0:decide ((B.length:Int)<(n:Int))=false:=decide_eq_false zO
  rw [if_neg zO] at hx
  have hw:2*v+B.getD p 0=Zm5 B n:=by rw [hn,hv];rfl
  rw [hw] at hx
  have hwl:=ZwD hB n
  have hfw:fr l n≤Zm5 B n:=by
   have:2*v≤Zm5 B n:=zO
   omega
  obtain ⟨w,hwd⟩:∃ w,w=Zm5 B n:=⟨_,rfl⟩
  rw [←hwd] at hx hwl hfw
  clear hw
  repeat (first|refine zR @d0 ?_|exact zU @d0)
  refine SWp.loop (α:=Nat) (fun k=>mk 73 1 [(0,.sl nl none (l.map nA)),(1,.sl em none (C.map nA)),(2,.sl nb none (B.map nA)),(6,.op 6 0 0),(7,int (n:Int)),(8,boo (bgn l B n k)),(9,int k)] [(6,0,.row false [.sc (.int .i64 0),.sc (.slice none 0 0),.sc (.int .i64 0)])])
   (fun k=>k≤l.length∧∀ j,j<k→l.getD j 0=n→ZcQ l j≠w) (fun k=>l.length-k) 0 ⟨Nat.zero_le _,fun _ h=>by omega⟩ (Zal rfl ?_ ?_ ?_) ?_
  ·exact Nat.le_refl _
  ·(first|exact yT|refine yS ?_)
   rfl
  ·(first|exact yT|refine yS ?_)
  rintro k ⟨hk,hno⟩ -
  repeat (first|refine zS ?_|exact zT)
  refine SWp.cond rfl (fun h=>?_) (fun h=>?_)
  ·simp only [decide_eq_true_eq] at h
   have hkl:k<l.length:=zO
   have hbs:=ZyW (l:=l) (B:=B) (n:=n) (k:=k)
   have hx15:l.getD k 0≤15:=by
    have:l.getD k 0=l[k]:=by simp [List.getD,List.getElem?_eq_getElem hkl]
    rw [this];exact h15 _ (List.getElem_mem hkl)
   have hCk:=hCs k hkl
   by_cases cz:l.getD k 0=0
   ·have dz:decide (((l.getD k 0:Nat):Int)=0)=true:=decide_eq_true zO
    rw [decide_eq_false (by simpa using cz),Bool.false_and,Bool.or_false] at hbs
    repeat (first|refine zR (ja2 iR @dz) ?_|exact zU (ja2 iR @dz))
    refine At.of (k+1) ⟨by omega,fun j hj hjn=>?_⟩ zO rfl rfl (Nat.le_refl _) ?_ ?_
    ·by_cases e:j=k
     ·subst e;omega
     ·exact hno j zO hjn
    iterate 2 (case _=>(first|exact yU @hbs|refine yR @hbs ?_))
   ·have dz:decide (((l.getD k 0:Nat):Int)=0)=false:=decide_eq_false zO
    have hlt:=ZrA h15 hK hkl rfl cz hx15
    have hcin:=Zrz hkl rfl cz
    have hsat:=Zwz (l:=l) rfl cz hkl (Nat.le_refl _)
    rw [decide_eq_true (by simpa using cz),Bool.true_and] at hbs
    obtain ⟨x,hxd⟩:∃ x,x=l.getD k 0:=⟨_,rfl⟩
    obtain ⟨c,hc⟩:∃ c,c=ZcQ l k:=⟨_,rfl⟩
    rw [←hxd] at hx15 hlt hcin hsat hbs dz cz
    rw [←hc] at hlt hcin hCk hbs
    have hp2:2^x≤32768:=ZaI (n:=x) (m:=15) hx15
    have hrow:=ZwC c x zO hx15
    have hrl:=Zdp (v:=c) (n:=x)
    have hhd1:=ZnI (nl0 x) nb (Zor c x) B zO zO
    have hhd2:=ZnI nb (nl0 x) (B.take n) (Zor c x) (by rw [List.length_take];omega) zO
    have hp1:=ZwF hB (n:=n) hlt zO
    obtain ⟨R,hR⟩:∃ R,R=Zor c x:=⟨_,rfl⟩
    rw [←hR] at hrow hhd1 hhd2 hbs
    have hfr1:AV.free.freeL [.sl (nl0 x) none (R.map nA),.sl nb none (B.map nA)]=true:=by simp only [AV.free,AV.free.freeL,Zaj,Bool.and_self]
    have hfr2:AV.free.freeL [.sl nb none ((B.take n).map nA),.sl (nl0 x) none (R.map nA)]=true:=by simp only [AV.free,AV.free.freeL,Zaj,Bool.and_self]
    repeat (first|refine zR (ja4 iR hxd.symm @dz @hCk) ?_|exact zU (ja4 iR hxd.symm @dz @hCk))
    refine Zaq _ (.inl ⟨rfl,hrow⟩) ?_
    have fin2:(x=n→c≠w)→∀ j,j<k+1→l.getD j 0=n→ZcQ l j≠w:=fun hne j hj hjn=>by
     by_cases e:j=k
     ·subst e;rw [←hc];exact hne zO
     ·exact hno j zO hjn
    by_cases cx:x=n
    ·have dx:decide ((x:Int)=(n:Int))=true:=decide_eq_true zO
     have hh:=ZCK hB (c:=c) (n:=x) hlt zO
     rw [←hR,cx,←hwd] at hh
     rw [hh] at hhd1
     by_cases cw:c=w
     ·rw [decide_eq_true cw] at hhd1
      have hres:r=(k,n,0):=by
       rw [cx,cw] at hcin
       rw [cx] at hsat
       have hkk:w*2^(15-n)<Zas l:=Nat.lt_of_lt_of_le (Nat.mul_lt_mul_of_pos_right zO (Nat.pow_pos zO)) (ZA8 h15 hn15)
       rw [if_neg zO,if_pos zO,hcin.2.1,hsat] at hx
       exact hx.symm
      subst hres
      repeat (first|refine zR (ja3 iR hxd.symm @dx) ?_|exact zU (ja3 iR hxd.symm @dx))
      refine Zaq _ (.inl ⟨hfr1,hhd1⟩) ?_
      repeat (first|refine zR BG14 ?_|exact zU BG14)
     ·rw [decide_eq_false cw] at hhd1
      cases hbb:bgn l B n k with
      | true =>
       rw [hbb] at hbs
       repeat (first|refine zR (ja4 iR hxd.symm @dx @hbb) ?_|exact zU (ja4 iR hxd.symm @dx @hbb))
       refine Zaq _ (.inl ⟨hfr1,hhd1⟩) ?_
       repeat (first|refine zR (ja2 iR @hbb) ?_|exact zU (ja2 iR @hbb))
       refine At.of (k+1) ⟨by omega,fin2 fun _=>cw⟩ zO rfl rfl (Nat.le_refl _) ?_ ?_
       iterate 2 (case _=>(first|exact yU (ja2 @hbs @Bool.true_or)|refine yR (ja2 @hbs @Bool.true_or) ?_))
      | false =>
       rw [hbb,Bool.false_or] at hbs
       repeat (first|refine zR (ja4 iR hxd.symm @dx @hbb) ?_|exact zU (ja4 iR hxd.symm @dx @hbb))
       refine Zaq _ (.inl ⟨hfr1,hhd1⟩) ?_
       repeat (first|refine zR (ja2 iR @hbb) ?_|exact zU (ja2 iR @hbb))
       refine Zaq _ (.inl ⟨hfr2,hhd2⟩) ?_
       repeat (first|refine zR iR ?_|exact zU iR)
       refine At.of (k+1) ⟨by omega,fin2 fun _=>cw⟩ zO rfl rfl (Nat.le_refl _) ?_ ?_
       iterate 2 (case _=>(first|exact yU @hbs|refine yR @hbs ?_))
    ·have dx:decide ((x:Int)=(n:Int))=false:=decide_eq_false zO
     cases hbb:bgn l B n k with
     | true =>
      rw [hbb] at hbs
      repeat (first|refine zR (ja4 iR hxd.symm @dx @hbb) ?_|exact zU (ja4 iR hxd.symm @dx @hbb))
      refine At.of (k+1) ⟨by omega,fin2 fun h=>absurd h cx⟩ zO rfl rfl (Nat.le_refl _) ?_ ?_
      iterate 2 (case _=>(first|exact yU (ja2 @hbs @Bool.true_or)|refine yR (ja2 @hbs @Bool.true_or) ?_))
     | false =>
      rw [hbb,Bool.false_or] at hbs
      repeat (first|refine zR (ja4 iR hxd.symm @dx @hbb) ?_|exact zU (ja4 iR hxd.symm @dx @hbb))
      refine Zaq _ (.inl ⟨hfr2,hhd2⟩) ?_
      repeat (first|refine zR iR ?_|exact zU iR)
      refine At.of (k+1) ⟨by omega,fin2 fun h=>absurd h cx⟩ zO rfl rfl (Nat.le_refl _) ?_ ?_
      iterate 2 (case _=>(first|exact yU @hbs|refine yR @hbs ?_))
  ·simp only [decide_eq_false_iff_not] at h
   obtain rfl:k=l.length:=zO
   have hout:fr l n+cn l n≤w:=by
    rcases Nat.lt_or_ge w (fr l n+cn l n) with q | q
    ·exfalso
     have hin:=ZoH (l:=l) (m:=n) (j:=w-fr l n) zO zO
     exact hno _ hin.1 hin.2.1 (by rw [hin.2.2];omega)
    ·exact q
   have hb:=ZA9 h15 hK hB (n:=n) zO hn15 hwd hout
   by_cases c1:w*2^(15-n)<Zas l
   ·rw [decide_eq_true c1] at hb
    rw [if_neg zO,if_neg zO] at hx
    have hnx:fr l (n+1)≤2*w:=by rw [fr];omega
    repeat (first|refine zR @hb ?_|exact zU @hb)
    refine At.of (n,w) ⟨by simp only;omega,by simp only;omega,hwd,hnx,by simp only;rw [show 15-n=f by omega];exact hx⟩ (by simp only;omega) rfl rfl (Nat.le_refl _) ?_ ?_
    iterate 2 (case _=>(first|exact yT|refine yS ?_))
   ·rw [decide_eq_false c1] at hb
    rw [if_pos zO] at hx
    subst hx
    repeat (first|refine zR (ja3 @hb iR @Zkm.eq_1) ?_|exact zU (ja3 @hb iR @Zkm.eq_1))
 ·simp only [decide_eq_false_iff_not] at h
  obtain rfl:p=15:=zO
  have hx:r=(0,15,3):=by rw [←hx];rfl
  subst hx
  repeat (first|refine zR BG14 ?_|exact zU BG14)
theorem Zsx {l:List Nat} {B:List Nat} {m:Nat}:∀ (f n v:Nat),n+f≤m→nxt l (B.take m) f n v=nxt l B f n v
 | 0,_,_,_=>rfl
 | f+1,n,v,h=>by
  have hg:(B.take m).getD n 0=B.getD n 0:=by simp only [List.getD];rw [List.getElem?_take,if_pos zO]
  rw [nxt,nxt,hg,Zsx f (n+1) _ zO,List.length_take]
  by_cases c:B.length≤n
  ·rw [if_pos c,if_pos zO]
  ·rw [if_neg c,if_neg zO]
theorem ZwG {l B:List Nat}:∀ (f n v:Nat),(nxt l B f n v).2.2=0→l.getD (nxt l B f n v).1 0=(nxt l B f n v).2.1
 | 0,n,v,h=>by simp [nxt] at h
 | f+1,n,v,h=>by
  rw [nxt] at h ⊢
  split
  ·rename_i c;rw [if_pos c] at h;simp at h
  ·rename_i c
   rw [if_neg c] at h
   split
   ·rename_i c;rw [if_pos c] at h;simp at h
   ·rename_i c
    rw [if_neg c] at h
    split
    ·rename_i c;exact (ZoH zO c).2.1
    ·rename_i c
     rw [if_neg c] at h
     exact ZwG f (n+1) _ h
def cdG (nl em:Bool) (l:List Nat):AV:=.agg [.sl nl none (l.map nA),.sl em none ((Zf1 l).map nA)]
theorem Zkn {nl em:Bool} {l:List Nat}:(cdG nl em l).free=true:=by simp only [cdG,AV.free,AV.free.freeL,Zaj,Bool.and_self]
def syS (l B:List Nat) (i e:Nat):Nat × Nat × Nat:=if e≠0 then (0,i,e) else if (nxt l (B.drop i) 15 0 0).2.2=0 then ((nxt l (B.drop i) 15 0 0).1,i+(nxt l (B.drop i) 15 0 0).2.1,0) else (0,i,(nxt l (B.drop i) 15 0 0).2.2)
set_option maxHeartbeats 1000000 in
theorem ZjD [Tabs Tryz.prog] (nb:Bool) (B:List Nat) (hBl:B.length≤400000) (hB:∀ x∈B,x<2) (most i e:Nat) (hi:i≤B.length) (out:List UInt8) (nl em:Bool) (l:List Nat) (hl:l.length≤320) (h15:∀ x∈l,x≤15) (hK:Zas l≤32768) :
  HCon Tryz.prog Za0 [.op 1000 0 0,cdG nl em l] (stI nb B most i e out) (int ((syS l B i e).1:Int)) (stO 0 nb B most (syS l B i e).2.1 (syS l B i e).2.2 out) 4:=by
 refine HCon.of' mix Tryz.func50 rfl Tryz.ntmps50 ZfI ZfJ zB (by simp only [AV.gl.glL,AV.gl,and_true];exact ⟨by omega,Zbw 1 _ Zkn⟩) ZpO ?_
 unfold Zcr
 by_cases c:e=0
 ·subst c
  obtain ⟨E,hE⟩:∃ E,E=min (i+15) B.length:=⟨_,rfl⟩
  have hEl:E≤B.length:=zO
  have hiE:i≤E:=zO
  have hdt:(B.take E).drop i=(B.drop i).take 15:=by
   rw [List.drop_take]
   by_cases q:i+15≤B.length
   ·congr 1;omega
   ·rw [List.take_of_length_le (by rw [List.length_drop];omega),List.take_of_length_le (by rw [List.length_drop];omega)]
  have hN:=Zur l hl h15 hK nl em nb ((B.drop i).take 15) (by rw [List.length_take];omega) (fun x hx=>hB x (List.mem_of_mem_drop (List.mem_of_mem_take hx))) _ rfl
  rw [Zsx 15 0 0 zO] at hN
  have hlen:=ZwG (l:=l) (B:=B.drop i) 15 0 0
  have hsy:=Zin (l:=l) (B:=B.drop i) 15 0 0
  have hfc:=Zha (l:=l) (B:=B.drop i) 15 0 0 (Nat.zero_le _)
  have hS:syS l B i 0=if (nxt l (B.drop i) 15 0 0).2.2=0 then ((nxt l (B.drop i) 15 0 0).1,i+(nxt l (B.drop i) 15 0 0).2.1,0) else (0,i,(nxt l (B.drop i) 15 0 0).2.2):=by rw [syS,if_neg zB]
  obtain ⟨⟨sy,m,e⟩,hr⟩:∃ r,r=nxt l (B.drop i) 15 0 0:=⟨_,rfl⟩
  rw [←hr] at hN hlen hsy hfc hS
  simp only at hlen hsy hfc hS
  rw [List.length_drop] at hfc
  rw [hS]
  obtain ⟨X,hX⟩:∃ X,X=Zkm nb ((B.drop i).take 15) (sy,m,e):=⟨_,rfl⟩
  have hXf:X.free=true:=by rw [hX];unfold Zkm;split <;> simp only [AV.free,Zaj]
  have hXc:Zat X=some [X]:=by rw [hX];unfold Zkm;split <;> rfl
  rw [←hX] at hN
  clear hr hS
  have hfr:AV.free.freeL [.sl nl none (l.map nA),.sl em none ((Zf1 l).map nA),.sl nb none (((B.drop i).take 15).map nA)]=true:=by simp only [AV.free,AV.free.freeL,Zaj,Bool.and_self]
  by_cases q:(B.length:Int)<(i:Int)+15
  ·have d:=decide_eq_true q
   have hEB:E=B.length:=zO
   have hdt2:(B.drop i).take 15=B.drop i:=List.take_of_length_le (by rw [List.length_drop];omega)
   rw [hdt2] at hN hfr
   by_cases c2:e=0
   ·subst c2
    have hsl:=hsy rfl
    have hml:=hlen rfl
    rw [if_pos rfl]
    repeat (first|refine zR (ja6 @stI.eq_1 @stR.eq_1 @cdG.eq_1 @d iR @List.take_length.{0}) ?_|exact zU (ja6 @stI.eq_1 @stR.eq_1 @cdG.eq_1 @d iR @List.take_length.{0}))
    refine Zaq _ (.inl ⟨hfr,hN⟩) ?_
    repeat (first|refine zR (ja5 @stO.eq_1 @stR.eq_1 iR @hXc @hml) ?_|exact zU (ja5 @stO.eq_1 @stR.eq_1 iR @hXc @hml))
   ·have d2:decide ((e:Int)=0)=false:=decide_eq_false zO
    rw [if_neg c2]
    repeat (first|refine zR (ja6 @stI.eq_1 @stR.eq_1 @cdG.eq_1 @d iR @List.take_length.{0}) ?_|exact zU (ja6 @stI.eq_1 @stR.eq_1 @cdG.eq_1 @d iR @List.take_length.{0}))
    refine Zaq _ (.inl ⟨hfr,hN⟩) ?_
    repeat (first|refine zR (ja5 @stO.eq_1 @stR.eq_1 iR @hXc @d2) ?_|exact zU (ja5 @stO.eq_1 @stR.eq_1 iR @hXc @d2))
  ·have d:=decide_eq_false q
   have hEB:E=i+15:=zO
   have eE:(i:Int)+15=(E:Int):=zO
   by_cases c2:e=0
   ·subst c2
    have hsl:=hsy rfl
    have hml:=hlen rfl
    rw [if_pos rfl]
    have d':decide ((B.length:Int)<(E:Int))=false:=decide_eq_false zO
    repeat (first|refine zR (ja7 @stI.eq_1 @stR.eq_1 @cdG.eq_1 @eE @d' iR @hdt) ?_|exact zU (ja7 @stI.eq_1 @stR.eq_1 @cdG.eq_1 @eE @d' iR @hdt))
    refine Zaq _ (.inl ⟨hfr,hN⟩) ?_
    repeat (first|refine zR (ja5 @stO.eq_1 @stR.eq_1 iR @hXc @hml) ?_|exact zU (ja5 @stO.eq_1 @stR.eq_1 iR @hXc @hml))
   ·have d2:decide ((e:Int)=0)=false:=decide_eq_false zO
    rw [if_neg c2]
    have d':decide ((B.length:Int)<(E:Int))=false:=decide_eq_false zO
    repeat (first|refine zR (ja7 @stI.eq_1 @stR.eq_1 @cdG.eq_1 @eE @d' iR @hdt) ?_|exact zU (ja7 @stI.eq_1 @stR.eq_1 @cdG.eq_1 @eE @d' iR @hdt))
    refine Zaq _ (.inl ⟨hfr,hN⟩) ?_
    repeat (first|refine zR (ja5 @stO.eq_1 @stR.eq_1 iR @hXc @d2) ?_|exact zU (ja5 @stO.eq_1 @stR.eq_1 iR @hXc @d2))
 ·rw [show syS l B i e=(0,i,e) by rw [syS,if_pos c]]
  have d:decide ((e:Int)=0)=false:=decide_eq_false zO
  repeat (first|refine zR (ja6 @stI.eq_1 @stR.eq_1 @stO.eq_1 @cdG.eq_1 @d iR) ?_|exact zU (ja6 @stI.eq_1 @stR.eq_1 @stO.eq_1 @cdG.eq_1 @d iR))
theorem ZnJ [Tabs Tryz.prog] (k:Nat) (hk:k≤20):Con Tryz.prog ZcW [int (k:Int)] (int ((2^k:Nat):Int)):=by
 refine Con.of' mix Tryz.func97 rfl Tryz.ntmps97 ZiQ ZiR zB rfl rfl ?_
 unfold Ze1
 obtain ⟨p,hp⟩:∃ p:Nat→Nat,p=fun j=>2^j:=⟨_,rfl⟩
 have hp0:p 0=1:=by rw [hp]
 have hps:∀ j,p (j+1)=2*p j:=fun j=>by rw [hp];simp only [Nat.pow_succ];omega
 have hpl:∀ j,j≤20→p j≤1048576:=fun j hj=>by rw [hp];exact ZaI (n:=j) (m:=20) hj
 rw [show (2:Nat)^k=p k by rw [hp]]
 clear hp
 repeat (first|refine zS ?_|exact zT)
 refine SWp.loop (α:=Nat) (fun j=>mk 13 0 [(0,int (k:Int)),(3,int (p j:Nat)),(4,int (j:Int))] [])
  (fun j=>j≤k) (fun j=>k-j) 0 (Nat.zero_le _) (Zal rfl ?_ ?_ ?_) ?_
 ·exact Nat.le_refl _
 iterate 2 (case _=>(first|exact yU @hp0|refine yR @hp0 ?_))
 rintro j hj -
 have h1:=hpl j zO
 have h2:=hps j
 obtain ⟨y,hy⟩:∃ y,y=p j:=⟨_,rfl⟩
 rw [←hy] at h1 h2 ⊢
 repeat (first|refine zS ?_|exact zT)
 refine SWp.cond rfl (fun h=>?_) (fun h=>?_)
 ·simp only [decide_eq_true_eq] at h
  have e2:(2:Int)*(y:Int)=((2*y:Nat):Int):=zO
  rw [h2.symm] at e2
  have h3:=hpl (j+1) zO
  obtain ⟨z,hz⟩:∃ z,z=p (j+1):=⟨_,rfl⟩
  rw [←hz] at e2 h3
  repeat (first|refine zR @e2 ?_|exact zU @e2)
  refine At.of (j+1) zO zO rfl rfl (Nat.le_refl _) ?_ ?_
  iterate 2 (case _=>(first|exact yU hz.symm|refine yR hz.symm ?_))
 ·simp only [decide_eq_false_iff_not] at h
  obtain rfl:j=k:=zO
  repeat (first|refine zR hy.symm ?_|exact zU hy.symm)
def leS (B:List Nat) (x i e:Nat):Nat × Nat × Nat:=if x<8 then (3+x,i,e) else if x=28 then (258,i,e) else (3+(4+x % 4)*2^(x / 4-1)+(nuS B (x / 4-1) i e).1,(nuS B (x / 4-1) i e).2)
def diS (B:List Nat) (x i e:Nat):Nat × Nat × Nat:=if x<4 then (1+x,i,e) else (1+(2+x % 2)*2^(x / 2-1)+(nuS B (x / 2-1) i e).1,(nuS B (x / 2-1) i e).2)
theorem ZwH {B:List Nat} (hB:∀ x∈B,x<2) {n i e:Nat} (hn:n≤24):(nuS B n i e).1<16777216:=by
 unfold nuS
 split
 ·simp only;omega
 ·split
  ·have h1:=ZmA (l:=(B.drop i).take n) fun x hx=>hB x (List.mem_of_mem_drop (List.mem_of_mem_take hx))
   have h2:2^((B.drop i).take n).length≤16777216:=ZaI (n:=((B.drop i).take n).length) (m:=24) (by rw [List.length_take];omega)
   simp only
   omega
  ·simp only;omega
def BG2:=ja3 @stI.eq_1 @stR.eq_1 iR
set_option maxHeartbeats 1000000 in
theorem ZrC [Tabs Tryz.prog] (nb:Bool) (B:List Nat) (hBl:B.length≤400000) (hB:∀ x∈B,x<2) (most i e:Nat) (hi:i≤B.length) (out:List UInt8) (x:Nat) (hx:x≤28) :
  HCon Tryz.prog Zcj [.op 1000 0 0,int ((x+257:Nat):Int)] (stI nb B most i e out) (int ((leS B x i e).1:Int)) (stO 0 nb B most (leS B x i e).2.1 (leS B x i e).2.2 out) 2:=by
 refine HCon.of' mix Tryz.func51 rfl Tryz.ntmps51 ZfK ZfL zB (by simp [AV.gl,AV.gl.glL,int]) ZpO ?_
 unfold Zcs
 have ex:((x:Nat):Int)+257-257=(x:Int):=zO
 by_cases c1:x<8
 ·have d1:decide ((x:Int)<8)=true:=decide_eq_true zO
  rw [show leS B x i e=(3+x,i,e) by rw [leS,if_pos c1]]
  repeat (first|refine zR (ja5 @stI.eq_1 @stR.eq_1 @stO.eq_1 @ex @d1) ?_|exact zU (ja5 @stI.eq_1 @stR.eq_1 @stO.eq_1 @ex @d1))
 have d1:decide ((x:Int)<8)=false:=decide_eq_false zO
 by_cases c2:x=28
 ·subst c2
  rw [show leS B 28 i e=(258,i,e) from rfl]
  repeat (first|refine zR (ja4 @stI.eq_1 @stR.eq_1 @stO.eq_1 @d1) ?_|exact zU (ja4 @stI.eq_1 @stR.eq_1 @stO.eq_1 @d1))
 have d2:decide ((x:Int)=28)=false:=decide_eq_false zO
 rw [show leS B x i e=(3+(4+x % 4)*2^(x / 4-1)+(nuS B (x / 4-1) i e).1,(nuS B (x / 4-1) i e).2) by rw [leS,if_neg c1,if_neg c2]]
 obtain ⟨k,hk⟩:∃ k,k=x / 4-1:=⟨_,rfl⟩
 obtain ⟨m,hm⟩:∃ m,m=x % 4:=⟨_,rfl⟩
 obtain ⟨q,hq⟩:∃ q,q=x / 4:=⟨_,rfl⟩
 rw [←hk,←hm]
 have e1:(q:Int)-1=(k:Int):=zO
 have hk6:k≤6:=zO
 have hm4:m<4:=zO
 have hp:2^k≤64:=ZaI (n:=k) (m:=6) hk6
 have hz2:(4+m)*2^k≤7*64:=Nat.mul_le_mul zO hp
 have hP:=ZnJ k zO
 have hN:=Zf2 nb B hBl hB most i e hi out k zO
 have hnl:=ZwH hB (n:=k) (i:=i) (e:=e) zO
 obtain ⟨p,hpd⟩:∃ p,p=2^k:=⟨_,rfl⟩
 rw [←hpd] at hP hp hz2 ⊢
 obtain ⟨z,hz⟩:∃ z,z=(4+m)*p:=⟨_,rfl⟩
 have e2:((4:Int)+(m:Int))*(p:Int)=(z:Int):=by rw [hz,Int.natCast_mul,Int.natCast_add];rfl
 rw [←hz] at hz2 ⊢
 obtain ⟨⟨v,j,f⟩,hv⟩:∃ r,r=nuS B k i e:=⟨_,rfl⟩
 rw [←hv] at hN hnl ⊢
 repeat (first|refine zR (ja6 @d1 @d2 @ex hq.symm hm.symm @e1) ?_|exact zU (ja6 @d1 @d2 @ex hq.symm hm.symm @e1))
 refine Zaq _ (.inl ⟨rfl,hP⟩) ?_
 repeat (first|refine zR @e2 ?_|exact zU @e2)
 refine Zab [(1000,0),(1001,0)] 2000 hN zB zB ?_ ?_ ?_
 iterate 2 (case _=>(first|exact yU BG2|refine yR BG2 ?_))
 repeat (first|refine zR BG0 ?_|exact zU BG0)
set_option maxHeartbeats 1000000 in
theorem ZoI [Tabs Tryz.prog] (nb:Bool) (B:List Nat) (hBl:B.length≤400000) (hB:∀ x∈B,x<2) (most i e:Nat) (hi:i≤B.length) (out:List UInt8) (x:Nat) (hx:x≤29) :
  HCon Tryz.prog ZbX [.op 1000 0 0,int (x:Int)] (stI nb B most i e out) (int ((diS B x i e).1:Int)) (stO 0 nb B most (diS B x i e).2.1 (diS B x i e).2.2 out) 2:=by
 refine HCon.of' mix Tryz.func52 rfl Tryz.ntmps52 ZeM ZeN zB (by simp [AV.gl,AV.gl.glL,int]) ZpO ?_
 unfold ZbY
 by_cases c1:x<4
 ·have d1:decide ((x:Int)<4)=true:=decide_eq_true zO
  rw [show diS B x i e=(1+x,i,e) by rw [diS,if_pos c1]]
  repeat (first|refine zR (ja4 @stI.eq_1 @stR.eq_1 @stO.eq_1 @d1) ?_|exact zU (ja4 @stI.eq_1 @stR.eq_1 @stO.eq_1 @d1))
 have d1:decide ((x:Int)<4)=false:=decide_eq_false zO
 rw [show diS B x i e=(1+(2+x % 2)*2^(x / 2-1)+(nuS B (x / 2-1) i e).1,(nuS B (x / 2-1) i e).2) by rw [diS,if_neg c1]]
 obtain ⟨k,hk⟩:∃ k,k=x / 2-1:=⟨_,rfl⟩
 obtain ⟨m,hm⟩:∃ m,m=x % 2:=⟨_,rfl⟩
 obtain ⟨q,hq⟩:∃ q,q=x / 2:=⟨_,rfl⟩
 rw [←hk,←hm]
 have e1:(q:Int)-1=(k:Int):=zO
 have hk6:k≤13:=zO
 have hm4:m<2:=zO
 have hp:2^k≤8192:=ZaI (n:=k) (m:=13) hk6
 have hz2:(2+m)*2^k≤3*8192:=Nat.mul_le_mul zO hp
 have hP:=ZnJ k zO
 have hN:=Zf2 nb B hBl hB most i e hi out k zO
 have hnl:=ZwH hB (n:=k) (i:=i) (e:=e) zO
 obtain ⟨p,hpd⟩:∃ p,p=2^k:=⟨_,rfl⟩
 rw [←hpd] at hP hp hz2 ⊢
 obtain ⟨z,hz⟩:∃ z,z=(2+m)*p:=⟨_,rfl⟩
 have e2:((2:Int)+(m:Int))*(p:Int)=(z:Int):=by rw [hz,Int.natCast_mul,Int.natCast_add];rfl
 rw [←hz] at hz2 ⊢
 obtain ⟨⟨v,j,f⟩,hv⟩:∃ r,r=nuS B k i e:=⟨_,rfl⟩
 rw [←hv] at hN hnl ⊢
 repeat (first|refine zR (ja4 @d1 hq.symm hm.symm @e1) ?_|exact zU (ja4 @d1 hq.symm hm.symm @e1))
 refine Zaq _ (.inl ⟨rfl,hP⟩) ?_
 repeat (first|refine zR @e2 ?_|exact zU @e2)
 refine Zab [(1000,0),(1001,0)] 2000 hN zB zB ?_ ?_ ?_
 iterate 2 (case _=>(first|exact yU BG2|refine yR BG2 ?_))
 repeat (first|refine zR BG0 ?_|exact zU BG0)
theorem ZmF {B:List Nat} {n i:Nat} (hi:i≤B.length):(Zi6 n).run B i=if (nuS B n i 0).2.2=0 then .ok (nuS B n i 0).1 (nuS B n i 0).2.1 else .no (nuS B n i 0).2.2:=by
 have hn:nuS B n i 0=if i+n≤B.length then (Zfi ((B.drop i).take n),i+n,0) else (0,i,2):=by rw [nuS,if_neg zB]
 rw [ZlT hi,hn]
 by_cases c:i+n≤B.length
 ·rw [if_pos c,if_pos c,if_pos rfl]
 ·rw [if_neg c,if_neg c,if_neg zB]
theorem ZBa {B:List Nat} {x i:Nat} (hi:i≤B.length) (hx:x≤28):(ZnF x).run B i=if (leS B x i 0).2.2=0 then .ok (leS B x i 0).1 (leS B x i 0).2.1 else .no (leS B x i 0).2.2:=by
 unfold ZnF leS
 rw [if_neg zO]
 by_cases c2:x=28
 ·subst c2;rfl
 ·rw [if_neg c2]
  by_cases c1:x<8
  ·rw [if_pos c1,if_pos c1];rfl
  ·rw [if_neg c1,if_neg c1,if_neg c2,ZeO,Zak,ZmF hi]
   obtain ⟨⟨v,j,f⟩,hr⟩:∃ r,r=nuS B (x / 4-1) i 0:=⟨_,rfl⟩
   rw [←hr]
   by_cases q:f=0
   ·simp only [if_pos q];rfl
   ·simp only [if_neg q];rfl
theorem ZBb {B:List Nat} {x i:Nat} (hi:i≤B.length) (hx:x≤29):(Zou x).run B i=if (diS B x i 0).2.2=0 then .ok (diS B x i 0).1 (diS B x i 0).2.1 else .no (diS B x i 0).2.2:=by
 unfold Zou diS
 rw [if_neg zO]
 by_cases c1:x<4
 ·rw [if_pos c1,if_pos c1];rfl
 ·rw [if_neg c1,if_neg c1,ZeO,Zak,ZmF hi]
  obtain ⟨⟨v,j,f⟩,hr⟩:∃ r,r=nuS B (x / 2-1) i 0:=⟨_,rfl⟩
  rw [←hr]
  by_cases q:f=0
  ·simp only [if_pos q];rfl
  ·simp only [if_neg q];rfl
theorem ZrD {l B:List Nat} {i:Nat}:(ZuI l 15 0 0).run B i=if (syS l B i 0).2.2=0 then .ok (syS l B i 0).1 (syS l B i 0).2.1 else .no (syS l B i 0).2.2:=by
 rw [ZmD,Zwt,syS,if_neg (show ¬ (0:Nat)≠0 by simp)]
 obtain ⟨⟨v,j,f⟩,hr⟩:∃ r,r=nxt l (B.drop i) 15 0 0:=⟨_,rfl⟩
 rw [←hr]
 by_cases q:f=0
 ·simp only [if_pos q];rfl
 ·simp only [if_neg q]
theorem ZwI {B:List Nat} (hB:∀ x∈B,x<2) {n i e:Nat}:(nuS B n i e).1<2^n:=by
 have hp:0<2^n:=Nat.pow_pos zO
 unfold nuS
 split
 ·simp only;omega
 ·split
  ·have h1:=ZmA (l:=(B.drop i).take n) fun x hx=>hB x (List.mem_of_mem_drop (List.mem_of_mem_take hx))
   have h2:2^((B.drop i).take n).length≤2^n:=ZaI (by rw [List.length_take];omega)
   simp only
   omega
  ·simp only;omega
theorem ZwJ {B:List Nat} (hB:∀ x∈B,x<2) {x i:Nat} (hi:i≤B.length) (hx:x≤28):3≤(leS B x i 0).1∧(leS B x i 0).1≤258∧(leS B x i 0).2.1≤B.length∧i≤(leS B x i 0).2.1:=by
 have h2:=ZwI hB (n:=x / 4-1) (i:=i) (e:=0)
 have h3:(nuS B (x / 4-1) i 0).2.1≤B.length∧i≤(nuS B (x / 4-1) i 0).2.1:=by
  unfold nuS;split
  ·exact ⟨hi,Nat.le_refl _⟩
  ·split <;> simp only <;> omega
 unfold leS
 split
 ·simp only;omega
 ·split
  ·simp only;omega
  ·simp only
   rename_i h1 h4
   have hk:x / 4-1=1∨x / 4-1=2∨x / 4-1=3∨x / 4-1=4∨x / 4-1=5:=zO
   have hm:x % 4<4:=zO
   generalize x % 4=m at *
   generalize x / 4-1=k at *
   rcases hk with rfl | rfl | rfl | rfl | rfl <;> omega
theorem ZwK {B:List Nat} (hB:∀ x∈B,x<2) {x i:Nat} (hi:i≤B.length) (hx:x≤29):1≤(diS B x i 0).1∧(diS B x i 0).1<16900000∧(diS B x i 0).2.1≤B.length:=by
 have h2:=ZwH hB (n:=x / 2-1) (i:=i) (e:=0) zO
 have hp:2^(x / 2-1)≤8192:=ZaI (n:=x / 2-1) (m:=13) zO
 have hz:(2+x % 2)*2^(x / 2-1)≤3*8192:=Nat.mul_le_mul zO hp
 have h3:(nuS B (x / 2-1) i 0).2.1≤B.length:=by
  unfold nuS;split
  ·exact hi
  ·split <;> simp only <;> omega
 unfold diS
 split
 ·simp only;omega
 ·simp only;omega
theorem ZmG {l B:List Nat} (hl:l.length≤320) {i:Nat} (hi:i≤B.length):(syS l B i 0).1<320∧i≤(syS l B i 0).2.1∧(syS l B i 0).2.1≤B.length∧((syS l B i 0).2.2=0→i<(syS l B i 0).2.1)∧(syS l B i 0).2.2≤10:=by
 have hfc:=Zha (l:=l) (B:=B.drop i) 15 0 0 (Nat.zero_le _)
 have hsy:=Zin (l:=l) (B:=B.drop i) 15 0 0
 rw [List.length_drop] at hfc
 unfold syS
 rw [if_neg zB]
 split
 ·rename_i h
  have:=hsy h
  simp only
  omega
 ·simp only
  omega
theorem ZCL {B:List Nat} {x i:Nat}:i≤(diS B x i 0).2.1:=by
 unfold diS nuS
 split
 ·exact Nat.le_refl _
 ·rw [if_neg zB]
  split <;> simp
def ZaF (K:Nat) (nb:Bool) (B:List Nat) (most:Nat):BR (List UInt8)→List (Nat × Nat × AO)
 | .ok o j=>stO K nb B most j 0 o
 | .no e=>[(1000,0,.row false (jkR e))]
def BG1:=ja4 @stI.eq_1 @stR.eq_1 iR @cdG.eq_1
def BG3:=ja2 @stR.eq_1 iR
def BG15:=ja3 @stR.eq_1 @Zaw iR
def BG16:=ja4 @ZbN @ZbO @stR.eq_1 iR
def BG17:=ja4 @jkR.eq_1 @ZaF.eq_1 @ZaF.eq_2 iR
def BG18:=ja4 @stR.eq_1 @cpy.eq_1 @cpy.eq_2 iR
def BG21:=ja5 @ZaF.eq_1 @ZaF.eq_2 @stO.eq_1 @stR.eq_1 iR
set_option maxHeartbeats 4000000 in
theorem ZnK [Tabs Tryz.prog] (nb:Bool) (B:List Nat) (hBl:B.length≤400000) (hB:∀ x∈B,x<2) (most:Nat) (hm:most≤16777216) (i:Nat) (hi:i≤B.length) (out:List UInt8) (ho:out.length≤most)
  (n1 m1:Bool) (l:List Nat) (hl:l.length≤320) (hl15:∀ x∈l,x≤15) (hKl:Zas l≤32768) (n2 m2:Bool) (d:List Nat) (hd:d.length≤320) (hd15:∀ x∈d,x≤15) (hKd:Zas d≤32768)
  (F:Nat) (hF:B.length-i<F) (r:BR (List UInt8)) (hr:(ZnG l d most F out).run B i=r) :
  HCon Tryz.prog Zbs [.op 1000 0 0,cdG n1 m1 l,cdG n2 m2 d] (stI nb B most i 0 out) (.tup []) (ZaF (1000*F+3) nb B most r) (1000*F+4):=by
 refine HCon.of' mix Tryz.func25 rfl Tryz.ntmps25 Zf5 Zf6 zB (by simp only [AV.gl.glL,AV.gl,and_true];exact ⟨by omega,Zbw 1 _ Zkn,Zbw 1 _ Zkn⟩) ZpO ?_
 unfold ZcK
 have hse:=fun e (q:(ZnG l d most F out).run B i = .no e)=>Zeo (ZoC F out) q
 rw [hr] at hse
 repeat (first|refine zR @cdG.eq_1 ?_|exact zU @cdG.eq_1)
 refine SWp.loop (α:=Nat × List UInt8 × Nat × Nat × Nat × Nat) (fun x=>mk 137 x.2.2.2.2.1 [(0,.op 1000 0 0),(4,.op 4 1 0),(5,.op 5 2 0)] [(1000,0,.row false (stR nb B most x.2.2.2.1 x.2.1.length x.2.2.1 x.2.2.2.2.2)),(1001,x.2.2.2.1,.row (nl0 x.2.1.length) (x.2.1.map u8)),(4,1,.row false [.sl n1 none (l.map nA),.sl m1 none ((Zf1 l).map nA)]),(5,2,.row false [.sl n2 none (d.map nA),.sl m2 none ((Zf1 d).map nA)])])
  (fun x=>x.2.2.2.2.1+1000*x.1≤1000*F+3∧((x.2.2.2.2.2=0∧(ZnG l d most x.1 x.2.1).run B x.2.2.1=r∧x.2.2.1≤B.length∧B.length-x.2.2.1<x.1∧x.2.1.length≤most)∨(x.2.2.2.2.2≠0∧r = .no x.2.2.2.2.2))) (fun x=>x.1+(if x.2.2.2.2.2=0 then 1 else 0)) (F,out,i,0,3,0) ⟨by simp only;omega,.inl ⟨rfl,hr,hi,hF,ho⟩⟩ (Zal rfl ?_ ?_ ?_) ?_
 ·exact Nat.le_refl _
 iterate 2 (case _=>(first|exact yU (ja2 @stI.eq_1 iR)|refine yR (ja2 @stI.eq_1 iR) ?_))
 rintro ⟨f,o,p,g,c,e⟩ ⟨hc,hx⟩ -
 simp only at hc hx
 rcases hx with ⟨rfl,hx,hp,hf,hom⟩ | ⟨he,rfl⟩
 ·obtain ⟨f,rfl⟩:∃ f',f=f'+1:=⟨f-1,by omega⟩
  clear hr
  rw [ZnG,Zak,ZrD] at hx
  have hS1:=ZjD nb B hBl hB most p 0 hp o n1 m1 l hl hl15 hKl
  obtain ⟨hs320,hpq,hqB,hq0,he10⟩:=ZmG hl (l:=l) hp
  obtain ⟨⟨sy,q,e1⟩,hs1⟩:∃ s,s=syS l B p 0:=⟨_,rfl⟩
  rw [←hs1] at hS1 hx hs320 hpq hqB hq0 he10
  simp only at hS1 hx hs320 hpq hqB hq0 he10
  clear hs1
  by_cases c1:e1=0
  ·subst c1
   have hq0:=hq0 rfl
   rw [if_pos rfl] at hx
   simp only [BR.bnd] at hx
   by_cases c2:sy<256
   ·rw [if_pos c2] at hx
    have d2:decide ((sy:Int)=256)=false:=decide_eq_false zO
    have d3:decide ((sy:Int)<256)=true:=decide_eq_true zO
    obtain ⟨v,rfl⟩:∃ v:UInt8,sy=v.toNat:=⟨UInt8.ofNat sy,by rw [UInt8.toNat_ofNat',Nat.mod_eq_of_lt zO]⟩
    rw [UInt8.ofNat_toNat] at hx
    have hv:=v.toNat_lt
    by_cases c3:most≤o.length
    ·rw [if_pos c3] at hx
     simp only [BT.run] at hx
     subst hx
     have d4:decide ((most:Int)≤(o.length:Int))=true:=decide_eq_true zO
     have hb:=Za7 nb B most q 0 o true 4
     rw [if_pos ⟨rfl,rfl⟩] at hb
     repeat (first|refine zR @stR.eq_1 ?_|exact zU @stR.eq_1)
     refine Zab [(1000,0),(1001,g)] 2000 hS1 zB zB ?_ ?_ ?_
     iterate 2 (case _=>(first|exact yU BG1|refine yR BG1 ?_))
     repeat (first|refine zR (ja6 @stO.eq_1 @stR.eq_1 iR @d2 @d3 @d4) ?_|exact zU (ja6 @stO.eq_1 @stR.eq_1 iR @d2 @d3 @d4))
     refine Zab [(1000,0),(1001,g)] 3000 hb zB zB ?_ ?_ ?_
     iterate 2 (case _=>(first|exact yU BG1|refine yR BG1 ?_))
     repeat (first|refine zR BG0 ?_|exact zU BG0)
     refine At.of (f,o++[v],q,c+4+1,c+4+1+1,4) ⟨by simp only;omega,.inr ⟨by simp,rfl⟩⟩ (by simp <;> omega) rfl rfl ?_ ?_ ?_
     ·simp only;omega
     iterate 2 (case _=>(first|exact yU BG15|refine yR BG15 ?_))
    ·rw [if_neg c3] at hx
     have d4:decide ((most:Int)≤(o.length:Int))=false:=decide_eq_false zO
     have hb:=Za7 nb B most q 0 o false 4
     rw [if_neg zB] at hb
     repeat (first|refine zR @stR.eq_1 ?_|exact zU @stR.eq_1)
     refine Zab [(1000,0),(1001,g)] 2000 hS1 zB zB ?_ ?_ ?_
     iterate 2 (case _=>(first|exact yU BG1|refine yR BG1 ?_))
     repeat (first|refine zR (ja6 @stO.eq_1 @stR.eq_1 iR @d2 @d3 @d4) ?_|exact zU (ja6 @stO.eq_1 @stR.eq_1 iR @d2 @d3 @d4))
     refine Zab [(1000,0),(1001,g)] 3000 hb zB zB ?_ ?_ ?_
     iterate 2 (case _=>(first|exact yU BG1|refine yR BG1 ?_))
     repeat (first|refine zR BG0 ?_|exact zU BG0)
     refine At.of (f,o++[v],q,c+4+1,c+4+1+1,0) ⟨by simp only;omega,.inl ⟨rfl,hx,hqB,by simp only;omega,by simp only [List.length_append,List.length_singleton];omega⟩⟩ (by simp <;> omega) rfl rfl ?_ ?_ ?_
     ·simp only;omega
     iterate 2 (case _=>(first|exact yU BG15|refine yR BG15 ?_))
   ·rw [if_neg c2] at hx
    have d3:decide ((sy:Int)<256)=false:=decide_eq_false zO
    by_cases c3:sy=256
    ·rw [if_pos c3] at hx
     simp only [BT.run] at hx
     subst hx c3
     repeat (first|refine zR @stR.eq_1 ?_|exact zU @stR.eq_1)
     refine Zab [(1000,0),(1001,g)] 2000 hS1 zB zB ?_ ?_ ?_
     iterate 2 (case _=>(first|exact yU BG1|refine yR BG1 ?_))
     iterate 1 (first|refine zR BG0 ?_|exact zU BG0)
     refine SWp.le (Zal (N:=137) (gc:=1000*F+3) (l:=[(0,.op 1000 0 0),(6,int 256)]) (h:=[(1000,0,.row false (stR nb B most g o.length q 0)),(1001,g,.row (nl0 o.length) (o.map u8))]) rfl ?_ ?_ ?_) ?_
     ·simp only;omega
     iterate 2 (case _=>(first|exact yU BG3|refine yR BG3 ?_))
     refine SWp.renew 1001 g (o:=.row (nl0 o.length) (o.map u8)) yT ?_
     refine SWp.le (Zal (N:=137) (gc:=1000*F+4) (l:=[(0,.op 1000 0 0),(6,int 256)]) (h:=[(1000,0,.row false (stR nb B most (1000*F+3) o.length q 0)),(1001,1000*F+3,.row (nl0 o.length) (o.map u8))]) rfl ?_ ?_ ?_) ?_
     ·exact Nat.le_refl _
     iterate 2 (case _=>(first|exact yU BG16|refine yR BG16 ?_))
     repeat (first|refine zR BG21 ?_|exact zU BG21)
    ·rw [if_neg c3,Zak,ZuJ,Zak] at hx
     have d2:decide ((sy:Int)=256)=false:=decide_eq_false zO
     by_cases c4:29≤sy-257
     ·rw [show ZnF (sy-257) = .err 3 by rw [ZnF,if_pos c4]] at hx
      simp only [BT.run,BR.bnd] at hx
      subst hx
      have d4:decide ((285:Int)<(sy:Int))=true:=decide_eq_true zO
      have hb:=Za7 nb B most q 0 o true 3
      rw [if_pos ⟨rfl,rfl⟩] at hb
      repeat (first|refine zR @stR.eq_1 ?_|exact zU @stR.eq_1)
      refine Zab [(1000,0),(1001,g)] 2000 hS1 zB zB ?_ ?_ ?_
      iterate 2 (case _=>(first|exact yU BG1|refine yR BG1 ?_))
      repeat (first|refine zR (ja6 @stO.eq_1 @stR.eq_1 iR @d2 @d3 @d4) ?_|exact zU (ja6 @stO.eq_1 @stR.eq_1 iR @d2 @d3 @d4))
      refine Zab [(1000,0),(1001,g)] 3000 hb zB zB ?_ ?_ ?_
      iterate 2 (case _=>(first|exact yU BG1|refine yR BG1 ?_))
      (first|exact yU BG0|refine yR BG0 ?_)
      refine SWp.le (Zal (N:=137) (gc:=1000*F+3) (l:=[(0,.op 1000 0 0)]) (h:=[(1000,0,.row false (stR nb B most g o.length q 3))]) rfl ?_ ?_ ?_) ?_
      ·simp only;omega
      iterate 2 (case _=>(first|exact yU BG3|refine yR BG3 ?_))
      refine SWp.blur 1000 0 (nl:=false) (cells:=(stR nb B most g o.length q 3)) (jkR 3) yT (by simp only [stR,jkR,ZoY];simp) ?_
      refine SWp.le (Zal (N:=137) (gc:=1000*F+3) (l:=[(0,.op 1000 0 0)]) (h:=[(1000,0,.row false (jkR 3))]) rfl ?_ ?_ ?_) ?_
      ·exact Nat.le_refl _
      iterate 2 (case _=>(first|exact yT|refine yS ?_))
      repeat (first|refine zR BG17 ?_|exact zU BG17)
      all_goals omega
     ·have d4:decide ((285:Int)<(sy:Int))=false:=decide_eq_false zO
      have hb:=Za7 nb B most q 0 o false 3
      rw [if_neg zB] at hb
      obtain ⟨z,hz⟩:∃ z,z=sy-257:=⟨_,rfl⟩
      obtain rfl:sy=z+257:=zO
      have d2:decide ((z:Int)+257=256)=false:=decide_eq_false zO
      have d3:decide ((z:Int)+257<256)=false:=decide_eq_false zO
      have d4:decide ((285:Int)<(z:Int)+257)=false:=decide_eq_false zO
      rw [←hz] at hx c4
      have hz28:z≤28:=zO
      rw [ZBa hqB hz28] at hx
      have hLe:=ZrC nb B hBl hB most q 0 hqB o z hz28
      obtain ⟨hn3,hn5,hq2B,hqq2⟩:=ZwJ hB hqB hz28
      obtain ⟨⟨n,q2,e2⟩,hs2⟩:∃ s,s=leS B z q 0:=⟨_,rfl⟩
      rw [←hs2] at hLe hx hn3 hn5 hq2B hqq2
      simp only at hLe hx hn3 hn5 hq2B hqq2
      clear hs2
      have hS2:=ZjD nb B hBl hB most q2 e2 hq2B o n2 m2 d hd hd15 hKd
      by_cases c5:e2=0
      ·subst c5
       rw [if_pos rfl] at hx
       simp only [BR.bnd,Zak] at hx
       rw [ZrD] at hx
       obtain ⟨ht320,hqq,hq3B,hq30,he310⟩:=ZmG hd (l:=d) hq2B
       obtain ⟨⟨t,q3,e3⟩,hs3⟩:∃ s,s=syS d B q2 0:=⟨_,rfl⟩
       rw [←hs3] at hS2 hx ht320 hqq hq3B hq30 he310
       simp only at hS2 hx ht320 hqq hq3B hq30 he310
       have ht0:e3≠0→t=0:=fun h=>by
        have:=congrArg (fun s=>s.1) hs3
        have h3:=congrArg (fun s=>s.2.2) hs3
        rw [syS,if_neg zB] at this h3
        split at this
        ·rename_i h4;rw [if_pos h4] at h3;exact absurd h3 h
        ·exact this
       clear hs3
       by_cases c6:e3=0
       ·subst c6
        rw [if_pos rfl] at hx
        simp only [BR.bnd] at hx
        by_cases c7:30≤t
        ·rw [show Zou t = .err 3 by rw [Zou,if_pos c7]] at hx
         simp only [BT.bnd,BT.run,BR.bnd] at hx
         subst hx
         have d5:decide ((29:Int)<(t:Int))=true:=decide_eq_true zO
         have hb2:=Za7 nb B most q3 0 o true 3
         rw [if_pos ⟨rfl,rfl⟩] at hb2
         repeat (first|refine zR @stR.eq_1 ?_|exact zU @stR.eq_1)
         refine Zab [(1000,0),(1001,g)] 2000 hS1 zB zB ?_ ?_ ?_
         iterate 2 (case _=>(first|exact yU BG1|refine yR BG1 ?_))
         repeat (first|refine zR (ja6 @stO.eq_1 @stR.eq_1 iR @d2 @d3 @d4) ?_|exact zU (ja6 @stO.eq_1 @stR.eq_1 iR @d2 @d3 @d4))
         refine Zab [(1000,0),(1001,g)] 3000 hb zB zB ?_ ?_ ?_
         iterate 2 (case _=>(first|exact yU BG1|refine yR BG1 ?_))
         repeat (first|refine zR (ja5 @stO.eq_1 @stR.eq_1 iR @d2 @d3) ?_|exact zU (ja5 @stO.eq_1 @stR.eq_1 iR @d2 @d3))
         refine Zab [(1000,0),(1001,g)] 4000 hLe zB zB ?_ ?_ ?_
         iterate 2 (case _=>(first|exact yU BG1|refine yR BG1 ?_))
         repeat (first|refine zR BG0 ?_|exact zU BG0)
         refine Zab [(1000,0),(1001,g)] 5000 hS2 zB zB ?_ ?_ ?_
         iterate 2 (case _=>(first|exact yU BG1|refine yR BG1 ?_))
         repeat (first|refine zR (ja4 @stO.eq_1 @stR.eq_1 iR @d5) ?_|exact zU (ja4 @stO.eq_1 @stR.eq_1 iR @d5))
         refine Zab [(1000,0),(1001,g)] 6000 hb2 zB zB ?_ ?_ ?_
         iterate 2 (case _=>(first|exact yU BG1|refine yR BG1 ?_))
         (first|exact yU BG0|refine yR BG0 ?_)
         refine SWp.le (Zal (N:=137) (gc:=1000*F+3) (l:=[(0,.op 1000 0 0)]) (h:=[(1000,0,.row false (stR nb B most g o.length q3 3))]) rfl ?_ ?_ ?_) ?_
         ·simp only;omega
         iterate 2 (case _=>(first|exact yU BG3|refine yR BG3 ?_))
         refine SWp.blur 1000 0 (nl:=false) (cells:=(stR nb B most g o.length q3 3)) (jkR 3) yT (by simp only [stR,jkR,ZoY];simp) ?_
         refine SWp.le (Zal (N:=137) (gc:=1000*F+3) (l:=[(0,.op 1000 0 0)]) (h:=[(1000,0,.row false (jkR 3))]) rfl ?_ ?_ ?_) ?_
         ·exact Nat.le_refl _
         iterate 2 (case _=>(first|exact yT|refine yS ?_))
         repeat (first|refine zR BG17 ?_|exact zU BG17)
         all_goals omega
        ·have d5:decide ((29:Int)<(t:Int))=false:=decide_eq_false zO
         have hb2:=Za7 nb B most q3 0 o false 3
         rw [if_neg zB] at hb2
         try simp only [Zak] at hx
         rw [ZBb hq3B zO] at hx
         have hDi:=ZoI nb B hBl hB most q3 0 hq3B o t zO
         obtain ⟨hk1,hk5,hq4B⟩:=ZwK hB hq3B (x:=t) zO
         have hq34:q3≤(diS B t q3 0).2.1:=ZCL
         obtain ⟨⟨k,q4,e4⟩,hs4⟩:∃ s,s=diS B t q3 0:=⟨_,rfl⟩
         rw [←hs4] at hDi hx hk1 hk5 hq4B hq34
         simp only at hDi hx hk1 hk5 hq4B hq34
         clear hs4
         have hb3:=Za7 nb B most q4 e4 o (decide ((o.length:Int)<(k:Int))) 3
         obtain ⟨e5,he5⟩:∃ e5,e5=if decide ((o.length:Int)<(k:Int))=true∧e4=0 then 3 else e4:=⟨_,rfl⟩
         rw [←he5] at hb3
         have hb4:=Za7 nb B most q4 e5 o (decide ((most:Int)-(o.length:Int)<(n:Int))) 4
         obtain ⟨e6,he6⟩:∃ e6,e6=if decide ((most:Int)-(o.length:Int)<(n:Int))=true∧e5=0 then 4 else e5:=⟨_,rfl⟩
         rw [←he6] at hb4
         repeat (first|refine zR @stR.eq_1 ?_|exact zU @stR.eq_1)
         refine Zab [(1000,0),(1001,g)] 2000 hS1 zB zB ?_ ?_ ?_
         iterate 2 (case _=>(first|exact yU BG1|refine yR BG1 ?_))
         repeat (first|refine zR (ja6 @stO.eq_1 @stR.eq_1 iR @d2 @d3 @d4) ?_|exact zU (ja6 @stO.eq_1 @stR.eq_1 iR @d2 @d3 @d4))
         refine Zab [(1000,0),(1001,g)] 3000 hb zB zB ?_ ?_ ?_
         iterate 2 (case _=>(first|exact yU BG1|refine yR BG1 ?_))
         repeat (first|refine zR (ja5 @stO.eq_1 @stR.eq_1 iR @d2 @d3) ?_|exact zU (ja5 @stO.eq_1 @stR.eq_1 iR @d2 @d3))
         refine Zab [(1000,0),(1001,g)] 4000 hLe zB zB ?_ ?_ ?_
         iterate 2 (case _=>(first|exact yU BG1|refine yR BG1 ?_))
         repeat (first|refine zR BG0 ?_|exact zU BG0)
         refine Zab [(1000,0),(1001,g)] 5000 hS2 zB zB ?_ ?_ ?_
         iterate 2 (case _=>(first|exact yU BG1|refine yR BG1 ?_))
         repeat (first|refine zR (ja4 @stO.eq_1 @stR.eq_1 iR @d5) ?_|exact zU (ja4 @stO.eq_1 @stR.eq_1 iR @d5))
         refine Zab [(1000,0),(1001,g)] 6000 hb2 zB zB ?_ ?_ ?_
         iterate 2 (case _=>(first|exact yU BG1|refine yR BG1 ?_))
         repeat (first|refine zR BG0 ?_|exact zU BG0)
         refine Zab [(1000,0),(1001,g)] 7000 hDi zB zB ?_ ?_ ?_
         iterate 2 (case _=>(first|exact yU BG1|refine yR BG1 ?_))
         repeat (first|refine zR BG0 ?_|exact zU BG0)
         refine Zab [(1000,0),(1001,g)] 8000 hb3 zB zB ?_ ?_ ?_
         iterate 2 (case _=>(first|exact yU BG1|refine yR BG1 ?_))
         repeat (first|refine zR BG0 ?_|exact zU BG0)
         refine Zab [(1000,0),(1001,g)] 9000 hb4 zB zB ?_ ?_ ?_
         iterate 2 (case _=>(first|exact yU BG1|refine yR BG1 ?_))
         repeat (first|refine zR BG0 ?_|exact zU BG0)
         refine SWp.loop (α:=Nat × Nat × Nat) (fun x=>mk 137 x.2.2 [(0,.op 1000 0 0),(4,.op 4 1 0),(5,.op 5 2 0),(7,int (n:Int)),(9,int (k:Int)),(10,int (x.1:Int))] [(1000,0,.row false (stR nb B most x.2.1 (o.length+x.1) q4 e6)),(1001,x.2.1,.row (nl0 (o.length+x.1)) ((cpy o k x.1).map u8)),(4,1,.row false [.sl n1 none (l.map nA),.sl m1 none ((Zf1 l).map nA)]),(5,2,.row false [.sl n2 none (d.map nA),.sl m2 none ((Zf1 d).map nA)])])
          (fun x=>x.1≤n∧x.2.2≤c+20+x.1∧(x.1=0∨e6=0)) (fun x=>n-x.1) (0,g,c+16) ⟨Nat.zero_le _,by simp only;omega,.inl rfl⟩ (Zal rfl ?_ ?_ ?_) ?_
         ·simp only;omega
         iterate 2 (case _=>(first|exact yU BG18|refine yR BG18 ?_))
         rintro ⟨x,g2,c2⟩ ⟨hxn,hc2,hx0⟩ -
         simp only at hxn hc2 hx0
         have hn258:e6=0→o.length+n≤most∧k≤o.length:=fun h=>by
          rw [he6] at h
          split at h
          ·omega
          ·rename_i h7
           have h8:=h
           rw [he5] at h
           split at h
           ·omega
           ·rename_i h9
            simp only [decide_eq_true_eq,not_and] at h7 h9
            constructor
            ·have:¬ ((most:Int)-(o.length:Int)<(n:Int)):=fun q=>h7 q h8
             omega
            ·have:¬ ((o.length:Int)<(k:Int)):=fun q=>h9 q h
             omega
         by_cases c8:e6=0
         ·obtain ⟨hmn,hko⟩:=hn258 c8
          have hcl:=Ziy (k:=k) (n:=x) (out:=o)
          have hcs:=Zow (k:=k) (n:=x) (out:=o)
          obtain ⟨y,hy⟩:∃ y,y=cpy o k x:=⟨_,rfl⟩
          rw [←hy] at hcl hcs ⊢
          rw [hcl] at hcs
          subst c8
          by_cases c9:x<n
          ·have d9:decide ((x:Int)<(n:Int))=true:=decide_eq_true zO
           obtain ⟨w,hw⟩:∃ w,w=o.length+x-k:=⟨_,rfl⟩
           have ew:(o.length:Int)+(x:Int)-(k:Int)=(w:Int):=zO
           rw [←hw] at hcs
           obtain ⟨b8,hb8⟩:∃ b8,b8=y.getD w 0:=⟨_,rfl⟩
           rw [←hb8] at hcs
           have hn0:nl0 (o.length+(x+1))=false:=Zci zO
           repeat (first|refine zR (ja6 @stR.eq_1 iR @d9 @hcl @ew hb8.symm) ?_|exact zU (ja6 @stR.eq_1 iR @d9 @hcl @ew hb8.symm))
           refine At.of (x+1,c2,c2+1) ⟨by simp only;omega,by simp only;omega,.inr zB⟩ (by simp only;omega) rfl rfl (Nat.le_refl _) ?_ ?_
           iterate 2 (case _=>(first|exact yU (ja5 @stR.eq_1 @hcs @hn0 @Nat.add_assoc iR)|refine yR (ja5 @stR.eq_1 @hcs @hn0 @Nat.add_assoc iR) ?_))
          ·have d9:decide ((x:Int)<(n:Int))=false:=decide_eq_false zO
           obtain rfl:x=n:=zO
           have he50:e5=0:=by
            by_cases q:e5=0
            ·exact q
            ·rw [if_neg (fun h=>q h.2)] at he6;omega
           have he40:e4=0:=by
            by_cases q:e4=0
            ·exact q
            ·rw [if_neg (fun h=>q h.2)] at he5;omega
           rw [if_pos he40] at hx
           simp only [BR.bnd] at hx
           rw [if_neg zO,if_neg zO] at hx
           simp only [BT.run,BR.bnd] at hx
           rw [←hy] at hx
           repeat (first|refine zR (ja3 @stR.eq_1 iR @d9) ?_|exact zU (ja3 @stR.eq_1 iR @d9))
           refine At.of (f,y,q4,g2,c2,0) ⟨by simp only;omega,.inl ⟨rfl,hx,hq4B,by simp only;omega,by simp only;omega⟩⟩ (by simp <;> omega) rfl rfl (Nat.le_refl _) ?_ ?_
           iterate 2 (case _=>(first|exact yU (ja3 @stR.eq_1 @hcl iR)|refine yR (ja3 @stR.eq_1 @hcl iR) ?_))
         ·have d8:decide ((e6:Int)=0)=false:=decide_eq_false zO
          obtain rfl:x=0:=zO
          have d9:decide ((0:Int)<(n:Int))=true:=decide_eq_true zO
          have hrn:r = .no e6:=by
           rw [←hx]
           by_cases q:e4=0
           ·rw [if_pos q]
            simp only [BR.bnd]
            by_cases q2:o.length<k
            ·rw [if_pos q2]
             have h5:e5=3:=by rw [he5,if_pos ⟨by simpa using q2,q⟩]
             have h6:e6=3:=by rw [he6,if_neg (fun h=>by omega),h5]
             rw [h6];rfl
            ·rw [if_neg q2]
             have h5:e5=0:=by rw [he5,if_neg (fun h=>q2 (by simpa using h.1)),q]
             by_cases q3:most<o.length+n
             ·rw [if_pos q3]
              have h6:e6=4:=by rw [he6,if_pos ⟨decide_eq_true zO,h5⟩]
              rw [h6];rfl
             ·exfalso
              have h6:e6=0:=by rw [he6,if_neg (fun h=>q3 (by have:=of_decide_eq_true h.1;omega)),h5]
              exact c8 h6
           ·rw [if_neg q]
            have h5:e5=e4:=by rw [he5,if_neg (fun h=>q h.2)]
            have h6:e6=e4:=by rw [he6,if_neg (fun h=>q zO),h5]
            rw [h6]
          repeat (first|refine zR (ja4 @stR.eq_1 iR @d9 @d8) ?_|exact zU (ja4 @stR.eq_1 iR @d9 @d8))
          refine At.of (f,o,q4,g2,c2,e6) ⟨by simp only;omega,.inr ⟨c8,hrn⟩⟩ ?_ rfl rfl (Nat.le_refl _) ?_ ?_
          ·simp only;rw [if_neg c8];show f+0<f+1+1;omega
          iterate 2 (case _=>(first|exact yU BG18|refine yR BG18 ?_))
       ·rw [if_neg c6] at hx
        simp only [BR.bnd] at hx
        subst hx
        obtain rfl:t=0:=ht0 c6
        have de:decide ((e3:Int)=0)=false:=decide_eq_false zO
        have hb2:=Za7 nb B most q3 e3 o false 3
        rw [if_neg zB] at hb2
        repeat (first|refine zR @stR.eq_1 ?_|exact zU @stR.eq_1)
        refine Zab [(1000,0),(1001,g)] 2000 hS1 zB zB ?_ ?_ ?_
        iterate 2 (case _=>(first|exact yU BG1|refine yR BG1 ?_))
        repeat (first|refine zR (ja6 @stO.eq_1 @stR.eq_1 iR @d2 @d3 @d4) ?_|exact zU (ja6 @stO.eq_1 @stR.eq_1 iR @d2 @d3 @d4))
        refine Zab [(1000,0),(1001,g)] 3000 hb zB zB ?_ ?_ ?_
        iterate 2 (case _=>(first|exact yU BG1|refine yR BG1 ?_))
        repeat (first|refine zR (ja5 @stO.eq_1 @stR.eq_1 iR @d2 @d3) ?_|exact zU (ja5 @stO.eq_1 @stR.eq_1 iR @d2 @d3))
        refine Zab [(1000,0),(1001,g)] 4000 hLe zB zB ?_ ?_ ?_
        iterate 2 (case _=>(first|exact yU BG1|refine yR BG1 ?_))
        repeat (first|refine zR BG0 ?_|exact zU BG0)
        refine Zab [(1000,0),(1001,g)] 5000 hS2 zB zB ?_ ?_ ?_
        iterate 2 (case _=>(first|exact yU BG1|refine yR BG1 ?_))
        repeat (first|refine zR BG0 ?_|exact zU BG0)
        refine Zab [(1000,0),(1001,g)] 6000 hb2 zB zB ?_ ?_ ?_
        iterate 2 (case _=>(first|exact yU BG1|refine yR BG1 ?_))
        (first|exact yU BG0|refine yR BG0 ?_)
        refine SWp.le (Zal (N:=137) (gc:=1000*F+3) (l:=[(0,.op 1000 0 0)]) (h:=[(1000,0,.row false (stR nb B most g o.length q3 e3))]) rfl ?_ ?_ ?_) ?_
        ·simp only;omega
        iterate 2 (case _=>(first|exact yU BG3|refine yR BG3 ?_))
        refine SWp.blur 1000 0 (nl:=false) (cells:=(stR nb B most g o.length q3 e3)) (jkR e3) yT (by simp only [stR,jkR,ZoY];simp) ?_
        refine SWp.le (Zal (N:=137) (gc:=1000*F+3) (l:=[(0,.op 1000 0 0)]) (h:=[(1000,0,.row false (jkR e3))]) rfl ?_ ?_ ?_) ?_
        ·exact Nat.le_refl _
        iterate 2 (case _=>(first|exact yT|refine yS ?_))
        repeat (first|refine zR (ja5 @jkR.eq_1 @ZaF.eq_1 @ZaF.eq_2 iR @de) ?_|exact zU (ja5 @jkR.eq_1 @ZaF.eq_1 @ZaF.eq_2 iR @de))
        all_goals omega
      ·rw [if_neg c5] at hx
       simp only [BR.bnd] at hx
       subst hx
       have de:decide ((e2:Int)=0)=false:=decide_eq_false zO
       rw [show syS d B q2 e2=(0,q2,e2) by rw [syS,if_pos c5]] at hS2
       have hb2:=Za7 nb B most q2 e2 o false 3
       rw [if_neg zB] at hb2
       repeat (first|refine zR @stR.eq_1 ?_|exact zU @stR.eq_1)
       refine Zab [(1000,0),(1001,g)] 2000 hS1 zB zB ?_ ?_ ?_
       iterate 2 (case _=>(first|exact yU BG1|refine yR BG1 ?_))
       repeat (first|refine zR (ja6 @stO.eq_1 @stR.eq_1 iR @d2 @d3 @d4) ?_|exact zU (ja6 @stO.eq_1 @stR.eq_1 iR @d2 @d3 @d4))
       refine Zab [(1000,0),(1001,g)] 3000 hb zB zB ?_ ?_ ?_
       iterate 2 (case _=>(first|exact yU BG1|refine yR BG1 ?_))
       repeat (first|refine zR (ja5 @stO.eq_1 @stR.eq_1 iR @d2 @d3) ?_|exact zU (ja5 @stO.eq_1 @stR.eq_1 iR @d2 @d3))
       refine Zab [(1000,0),(1001,g)] 4000 hLe zB zB ?_ ?_ ?_
       iterate 2 (case _=>(first|exact yU BG1|refine yR BG1 ?_))
       repeat (first|refine zR BG0 ?_|exact zU BG0)
       refine Zab [(1000,0),(1001,g)] 5000 hS2 zB zB ?_ ?_ ?_
       iterate 2 (case _=>(first|exact yU BG1|refine yR BG1 ?_))
       repeat (first|refine zR BG0 ?_|exact zU BG0)
       refine Zab [(1000,0),(1001,g)] 6000 hb2 zB zB ?_ ?_ ?_
       iterate 2 (case _=>(first|exact yU BG1|refine yR BG1 ?_))
       (first|exact yU BG0|refine yR BG0 ?_)
       refine SWp.le (Zal (N:=137) (gc:=1000*F+3) (l:=[(0,.op 1000 0 0)]) (h:=[(1000,0,.row false (stR nb B most g o.length q2 e2))]) rfl ?_ ?_ ?_) ?_
       ·simp only;omega
       iterate 2 (case _=>(first|exact yU BG3|refine yR BG3 ?_))
       refine SWp.blur 1000 0 (nl:=false) (cells:=(stR nb B most g o.length q2 e2)) (jkR e2) yT (by simp only [stR,jkR,ZoY];simp) ?_
       refine SWp.le (Zal (N:=137) (gc:=1000*F+3) (l:=[(0,.op 1000 0 0)]) (h:=[(1000,0,.row false (jkR e2))]) rfl ?_ ?_ ?_) ?_
       ·exact Nat.le_refl _
       iterate 2 (case _=>(first|exact yT|refine yS ?_))
       repeat (first|refine zR (ja5 @jkR.eq_1 @ZaF.eq_1 @ZaF.eq_2 iR @de) ?_|exact zU (ja5 @jkR.eq_1 @ZaF.eq_1 @ZaF.eq_2 iR @de))
       all_goals omega
  ·rw [if_neg c1] at hx
   simp only [BR.bnd] at hx
   subst hx
   have de:decide ((e1:Int)=0)=false:=decide_eq_false zO
   repeat (first|refine zR @stR.eq_1 ?_|exact zU @stR.eq_1)
   refine Zab [(1000,0),(1001,g)] 2000 hS1 zB zB ?_ ?_ ?_
   iterate 2 (case _=>(first|exact yU BG1|refine yR BG1 ?_))
   iterate 1 (first|refine zR BG0 ?_|exact zU BG0)
   refine SWp.le (Zal (N:=137) (gc:=1000*F+3) (l:=[(0,.op 1000 0 0),(6,int (sy:Int))]) (h:=[(1000,0,.row false (stR nb B most g o.length q e1))]) rfl ?_ ?_ ?_) ?_
   ·simp only;omega
   iterate 2 (case _=>(first|exact yU BG3|refine yR BG3 ?_))
   refine SWp.blur 1000 0 (nl:=false) (cells:=(stR nb B most g o.length q e1)) (jkR e1) yT (by simp only [stR,jkR,ZoY];simp) ?_
   refine SWp.le (Zal (N:=137) (gc:=1000*F+3) (l:=[(0,.op 1000 0 0),(6,int (sy:Int))]) (h:=[(1000,0,.row false (jkR e1))]) rfl ?_ ?_ ?_) ?_
   ·exact Nat.le_refl _
   iterate 2 (case _=>(first|exact yT|refine yS ?_))
   repeat (first|refine zR (ja5 @jkR.eq_1 @ZaF.eq_1 @ZaF.eq_2 iR @de) ?_|exact zU (ja5 @jkR.eq_1 @ZaF.eq_1 @ZaF.eq_2 iR @de))
   all_goals omega
 ·have de:decide ((e:Int)=0)=false:=decide_eq_false zO
  refine SWp.le (Zal (N:=137) (gc:=1000*F+3) (l:=[(0,.op 1000 0 0)]) (h:=[(1000,0,.row false (stR nb B most g o.length p e))]) rfl ?_ ?_ ?_) ?_
  ·show c≤1000*F+3;omega
  iterate 2 (case _=>(first|exact yU BG3|refine yR BG3 ?_))
  refine SWp.blur 1000 0 (nl:=false) (cells:=(stR nb B most g o.length p e)) (jkR e) yT (by simp only [stR,jkR,ZoY];simp) ?_
  refine SWp.le (Zal (N:=137) (gc:=1000*F+3) (l:=[(0,.op 1000 0 0)]) (h:=[(1000,0,.row false (jkR e))]) rfl ?_ ?_ ?_) ?_
  ·exact Nat.le_refl _
  iterate 2 (case _=>(first|exact yT|refine yS ?_))
  repeat (first|refine zR (ja5 @jkR.eq_1 @ZaF.eq_1 @ZaF.eq_2 iR @de) ?_|exact zU (ja5 @jkR.eq_1 @ZaF.eq_1 @ZaF.eq_2 iR @de))
  all_goals omega
theorem ZCM {b:List UInt8} {j:Nat} (hj:j<b.length):ZaG b (8*j) 8=(b.getD j 0).toNat:=by
 have e:b.drop j=b.getD j 0::b.drop (j+1):=by
  rw [List.drop_eq_getElem_cons hj];simp [List.getD,List.getElem?_eq_getElem hj]
 have h1:(Zae b).drop (8*j)=Zc8 (b.getD j 0)++Zae (b.drop (j+1)):=by
  conv=>lhs;rw [←List.take_append_drop j b,ZbP]
  rw [List.drop_append,Zad,List.length_take,Nat.min_eq_left zO,Nat.sub_self,List.drop_zero,List.drop_of_length_le (by rw [Zad,List.length_take];omega),List.nil_append,e]
  simp [Zae]
 rw [←ZlU zO,h1,List.take_append_of_le_length (by rw [ZaM];exact Nat.le_refl _),List.take_of_length_le (by rw [ZaM];exact Nat.le_refl _)]
 exact ZoB.numB_bitsB (b:=b) 0
theorem ZpQ {b:List UInt8} {n i:Nat} (h:i+n≤8*b.length):nuS (Zae b) n i 0=(ZaG b i n,i+n,0):=by
 rw [nuS,if_neg zB,Zad,if_pos h,ZlU h]
theorem ZpR {b:List UInt8} {n i:Nat} (h:¬ i+n≤8*b.length):nuS (Zae b) n i 0=(0,i,2):=by
 rw [nuS,if_neg zB,Zad,if_neg h]
theorem Zus {B:List Nat} {n i e:Nat} (h:e≠0):nuS B n i e=(0,i,e):=by rw [nuS,if_pos h]
set_option maxHeartbeats 2000000 in
theorem ZrE [Tabs Tryz.prog] (nb:Bool) (b:List UInt8) (hb:b.length≤40000) (most:Nat) (hm:most≤16777216) (i:Nat) (hi:i≤8*b.length) (out:List UInt8) (ho:out.length≤most) (r:BR (List UInt8)) (hr:(ZuK most out).run (Zae b) i=r) :
  HCon Tryz.prog Zck [.op 1000 0 0] (stI nb (Zae b) most i 0 out) (.tup []) (ZaF 200000 nb (Zae b) most r) 200001:=by
 refine HCon.of' mix Tryz.func24 rfl Tryz.ntmps24 ZfF ZfG zB (by simp [AV.gl,AV.gl.glL]) ZpO ?_
 unfold Zcq
 rw [Zsq hi] at hr
 obtain ⟨q,hq⟩:∃ q,q=(i+7) / 8:=⟨_,rfl⟩
 rw [←hq] at hr
 have hBl:(Zae b).length=8*b.length:=Zad
 have hNum:=fun i e hi out n hn=>Zf2 nb (Zae b) (by rw [hBl];omega) Zdc most i e hi out n hn
 have ok:=fun {n i:Nat} (h:i+n≤8*b.length)=>ZpQ (b:=b) h
 have no:=fun {n i:Nat} (h:¬ i+n≤8*b.length)=>ZpR (b:=b) h
 have ke:=fun {n i e:Nat} (h:e≠0)=>Zus (B:=Zae b) (n:=n) (i:=i) h
 obtain ⟨B,hB⟩:∃ B,B=Zae b:=⟨_,rfl⟩
 rw [←hB] at hBl
 simp only [←hB] at hNum ok no ke ⊢
 repeat (first|refine zS ?_|exact zT)
 refine SWp.loop (α:=Nat) (fun j=>mk 82 1 [(0,.op 1000 0 0)] [(1000,0,.row false (stR nb B most 0 out.length j 0)),(1001,0,.row (nl0 out.length) (out.map u8))])
  (fun j=>i≤j∧j≤q*8) (fun j=>q*8-j) i ⟨Nat.le_refl _,by omega⟩ (Zal rfl ?_ ?_ ?_) ?_
 ·exact Nat.le_refl _
 iterate 2 (case _=>(first|exact yU @stI.eq_1|refine yR @stI.eq_1 ?_))
 rintro j ⟨hj,hj2⟩ -
 by_cases c0:j % 8=0
 ·have d0:decide (((j % 8:Nat):Int)=0)=true:=decide_eq_true zO
  obtain rfl:j=q*8:=zO
  repeat (first|refine zR (ja3 @stR.eq_1 iR @d0) ?_|exact zU (ja3 @stR.eq_1 iR @d0))
  by_cases c1:8*b.length<q*8+16
  ·rw [if_pos c1] at hr
   subst hr
   have de:decide ((2:Int)=0)=false:=by decide
   have h1:=hNum (q*8) 0 zO out 16 zO
   rw [no zO] at h1
   have h2:=hNum (q*8) 2 zO out 16 zO
   rw [ke zO] at h2
   have h3:=Za7 nb B most (q*8) 2 out true 3
   rw [if_neg zB] at h3
   refine Zab [(1000,0),(1001,0)] 2000 h1 zB zB ?_ ?_ ?_
   iterate 2 (case _=>(first|exact yU BG2|refine yR BG2 ?_))
   repeat (first|refine zR BG0 ?_|exact zU BG0)
   refine Zab [(1000,0),(1001,0)] 3000 h2 zB zB ?_ ?_ ?_
   iterate 2 (case _=>(first|exact yU BG2|refine yR BG2 ?_))
   repeat (first|refine zR BG0 ?_|exact zU BG0)
   refine Zab [(1000,0),(1001,0)] 4000 h3 zB zB ?_ ?_ ?_
   iterate 2 (case _=>(first|exact yU BG2|refine yR BG2 ?_))
   (first|exact yU BG0|refine yR BG0 ?_)
   refine SWp.le (Zal (N:=82) (gc:=100) (l:=[(0,.op 1000 0 0)]) (h:=[(1000,0,.row false (stR nb B most 0 out.length (q*8) 2))]) rfl ?_ ?_ ?_) ?_
   ·simp only;omega
   iterate 2 (case _=>(first|exact yU BG3|refine yR BG3 ?_))
   refine SWp.blur 1000 0 (nl:=false) (cells:=(stR nb B most 0 out.length (q*8) 2)) (jkR 2) yT (by simp only [stR,jkR,ZoY];simp) ?_
   refine SWp.le (Zal (N:=82) (gc:=100) (l:=[(0,.op 1000 0 0)]) (h:=[(1000,0,.row false (jkR 2))]) rfl ?_ ?_ ?_) ?_
   ·exact Nat.le_refl _
   iterate 2 (case _=>(first|exact yT|refine yS ?_))
   repeat (first|refine zR (ja5 @jkR.eq_1 @ZaF.eq_1 @ZaF.eq_2 iR @de) ?_|exact zU (ja5 @jkR.eq_1 @ZaF.eq_1 @ZaF.eq_2 iR @de))
  ·rw [if_neg c1] at hr
   have h1:=hNum (q*8) 0 zO out 16 zO
   rw [ok zO] at h1
   have hx1:=Zen (b:=b) (i:=q*8) (n:=16)
   obtain ⟨x,hx⟩:∃ x,x=ZaG b (q*8) 16:=⟨_,rfl⟩
   rw [←hx] at h1 hr hx1
   by_cases c2:8*b.length<q*8+32
   ·rw [if_pos c2] at hr
    subst hr
    have de:decide ((2:Int)=0)=false:=by decide
    have h2:=hNum (q*8+16) 0 zO out 16 zO
    rw [no zO] at h2
    have h3:=Za7 nb B most (q*8+16) 2 out (!decide ((0:Int)=65535-(x:Int))) 3
    rw [if_neg zB] at h3
    refine Zab [(1000,0),(1001,0)] 2000 h1 zB zB ?_ ?_ ?_
    iterate 2 (case _=>(first|exact yU BG2|refine yR BG2 ?_))
    repeat (first|refine zR BG0 ?_|exact zU BG0)
    refine Zab [(1000,0),(1001,0)] 3000 h2 zB zB ?_ ?_ ?_
    iterate 2 (case _=>(first|exact yU BG2|refine yR BG2 ?_))
    repeat (first|refine zR BG0 ?_|exact zU BG0)
    refine Zab [(1000,0),(1001,0)] 4000 h3 zB zB ?_ ?_ ?_
    iterate 2 (case _=>(first|exact yU BG2|refine yR BG2 ?_))
    (first|exact yU BG0|refine yR BG0 ?_)
    refine SWp.le (Zal (N:=82) (gc:=100) (l:=[(0,.op 1000 0 0)]) (h:=[(1000,0,.row false (stR nb B most 0 out.length (q*8+16) 2))]) rfl ?_ ?_ ?_) ?_
    ·simp only;omega
    iterate 2 (case _=>(first|exact yU BG3|refine yR BG3 ?_))
    refine SWp.blur 1000 0 (nl:=false) (cells:=(stR nb B most 0 out.length (q*8+16) 2)) (jkR 2) yT (by simp only [stR,jkR,ZoY];simp) ?_
    refine SWp.le (Zal (N:=82) (gc:=100) (l:=[(0,.op 1000 0 0)]) (h:=[(1000,0,.row false (jkR 2))]) rfl ?_ ?_ ?_) ?_
    ·exact Nat.le_refl _
    iterate 2 (case _=>(first|exact yT|refine yS ?_))
    repeat (first|refine zR (ja5 @jkR.eq_1 @ZaF.eq_1 @ZaF.eq_2 iR @de) ?_|exact zU (ja5 @jkR.eq_1 @ZaF.eq_1 @ZaF.eq_2 iR @de))
   ·rw [if_neg c2] at hr
    have h2:=hNum (q*8+16) 0 zO out 16 zO
    rw [ok zO] at h2
    have hy1:=Zen (b:=b) (i:=q*8+16) (n:=16)
    obtain ⟨y,hy⟩:∃ y,y=ZaG b (q*8+16) 16:=⟨_,rfl⟩
    rw [←hy] at h2 hr hy1
    by_cases c3:x+y≠65535
    ·rw [if_pos c3] at hr
     subst hr
     have de:decide ((3:Int)=0)=false:=by decide
     have d3:decide ((y:Int)=65535-(x:Int))=false:=decide_eq_false zO
     have h3:=Za7 nb B most (q*8+16+16) 0 out true 3
     rw [if_pos ⟨rfl,rfl⟩] at h3
     refine Zab [(1000,0),(1001,0)] 2000 h1 zB zB ?_ ?_ ?_
     iterate 2 (case _=>(first|exact yU BG2|refine yR BG2 ?_))
     repeat (first|refine zR BG0 ?_|exact zU BG0)
     refine Zab [(1000,0),(1001,0)] 3000 h2 zB zB ?_ ?_ ?_
     iterate 2 (case _=>(first|exact yU BG2|refine yR BG2 ?_))
     repeat (first|refine zR (ja4 @stO.eq_1 @stR.eq_1 iR @d3) ?_|exact zU (ja4 @stO.eq_1 @stR.eq_1 iR @d3))
     refine Zab [(1000,0),(1001,0)] 4000 h3 zB zB ?_ ?_ ?_
     iterate 2 (case _=>(first|exact yU BG2|refine yR BG2 ?_))
     (first|exact yU BG0|refine yR BG0 ?_)
     refine SWp.le (Zal (N:=82) (gc:=100) (l:=[(0,.op 1000 0 0)]) (h:=[(1000,0,.row false (stR nb B most 0 out.length (q*8+16+16) 3))]) rfl ?_ ?_ ?_) ?_
     ·simp only;omega
     iterate 2 (case _=>(first|exact yU BG3|refine yR BG3 ?_))
     refine SWp.blur 1000 0 (nl:=false) (cells:=(stR nb B most 0 out.length (q*8+16+16) 3)) (jkR 3) yT (by simp only [stR,jkR,ZoY];simp) ?_
     refine SWp.le (Zal (N:=82) (gc:=100) (l:=[(0,.op 1000 0 0)]) (h:=[(1000,0,.row false (jkR 3))]) rfl ?_ ?_ ?_) ?_
     ·exact Nat.le_refl _
     iterate 2 (case _=>(first|exact yT|refine yS ?_))
     repeat (first|refine zR (ja5 @jkR.eq_1 @ZaF.eq_1 @ZaF.eq_2 iR @de) ?_|exact zU (ja5 @jkR.eq_1 @ZaF.eq_1 @ZaF.eq_2 iR @de))
    ·rw [if_neg c3] at hr
     have d3:decide ((y:Int)=65535-(x:Int))=true:=decide_eq_true zO
     have h3:=Za7 nb B most (q*8+16+16) 0 out false 3
     rw [if_neg zB] at h3
     by_cases c4:b.length<q+4+x
     ·rw [if_pos c4] at hr
      subst hr
      have de:decide ((2:Int)=0)=false:=by decide
      have d4:decide ((B.length:Int)-(((q*8:Nat):Int)+16+16)<8*(x:Int))=true:=decide_eq_true zO
      refine Zab [(1000,0),(1001,0)] 2000 h1 zB zB ?_ ?_ ?_
      iterate 2 (case _=>(first|exact yU BG2|refine yR BG2 ?_))
      repeat (first|refine zR BG0 ?_|exact zU BG0)
      refine Zab [(1000,0),(1001,0)] 3000 h2 zB zB ?_ ?_ ?_
      iterate 2 (case _=>(first|exact yU BG2|refine yR BG2 ?_))
      repeat (first|refine zR (ja4 @stO.eq_1 @stR.eq_1 iR @d3) ?_|exact zU (ja4 @stO.eq_1 @stR.eq_1 iR @d3))
      refine Zab [(1000,0),(1001,0)] 4000 h3 zB zB ?_ ?_ ?_
      iterate 2 (case _=>(first|exact yU BG2|refine yR BG2 ?_))
      (first|exact yU BG0|refine yR BG0 ?_)
      iterate 11 (first|refine zR (ja3 @stR.eq_1 iR @d4) ?_|exact zU (ja3 @stR.eq_1 iR @d4))
      refine SWp.le (Zal (N:=82) (gc:=100) (l:=[(0,.op 1000 0 0)]) (h:=[(1000,0,.row false (stR nb B most 0 out.length (q*8+16+16) 2))]) rfl ?_ ?_ ?_) ?_
      ·simp only;omega
      iterate 2 (case _=>(first|exact yU BG3|refine yR BG3 ?_))
      refine SWp.blur 1000 0 (nl:=false) (cells:=(stR nb B most 0 out.length (q*8+16+16) 2)) (jkR 2) yT (by simp only [stR,jkR,ZoY];simp) ?_
      refine SWp.le (Zal (N:=82) (gc:=100) (l:=[(0,.op 1000 0 0)]) (h:=[(1000,0,.row false (jkR 2))]) rfl ?_ ?_ ?_) ?_
      ·exact Nat.le_refl _
      iterate 2 (case _=>(first|exact yT|refine yS ?_))
      repeat (first|refine zR (ja5 @jkR.eq_1 @ZaF.eq_1 @ZaF.eq_2 iR @de) ?_|exact zU (ja5 @jkR.eq_1 @ZaF.eq_1 @ZaF.eq_2 iR @de))
     ·rw [if_neg c4] at hr
      have d4:decide ((B.length:Int)-(((q*8:Nat):Int)+16+16)<8*(x:Int))=false:=decide_eq_false zO
      by_cases c5:most<out.length+x
      ·rw [if_pos c5] at hr
       subst hr
       have de:decide ((4:Int)=0)=false:=by decide
       have d5:decide ((most:Int)-(out.length:Int)<(x:Int))=true:=decide_eq_true zO
       refine Zab [(1000,0),(1001,0)] 2000 h1 zB zB ?_ ?_ ?_
       iterate 2 (case _=>(first|exact yU BG2|refine yR BG2 ?_))
       repeat (first|refine zR BG0 ?_|exact zU BG0)
       refine Zab [(1000,0),(1001,0)] 3000 h2 zB zB ?_ ?_ ?_
       iterate 2 (case _=>(first|exact yU BG2|refine yR BG2 ?_))
       repeat (first|refine zR (ja4 @stO.eq_1 @stR.eq_1 iR @d3) ?_|exact zU (ja4 @stO.eq_1 @stR.eq_1 iR @d3))
       refine Zab [(1000,0),(1001,0)] 4000 h3 zB zB ?_ ?_ ?_
       iterate 2 (case _=>(first|exact yU BG2|refine yR BG2 ?_))
       (first|exact yU BG0|refine yR BG0 ?_)
       iterate 16 (first|refine zR (ja4 @stR.eq_1 iR @d4 @d5) ?_|exact zU (ja4 @stR.eq_1 iR @d4 @d5))
       refine SWp.le (Zal (N:=82) (gc:=100) (l:=[(0,.op 1000 0 0)]) (h:=[(1000,0,.row false (stR nb B most 0 out.length (q*8+16+16) 4))]) rfl ?_ ?_ ?_) ?_
       ·simp only;omega
       iterate 2 (case _=>(first|exact yU BG3|refine yR BG3 ?_))
       refine SWp.blur 1000 0 (nl:=false) (cells:=(stR nb B most 0 out.length (q*8+16+16) 4)) (jkR 4) yT (by simp only [stR,jkR,ZoY];simp) ?_
       refine SWp.le (Zal (N:=82) (gc:=100) (l:=[(0,.op 1000 0 0)]) (h:=[(1000,0,.row false (jkR 4))]) rfl ?_ ?_ ?_) ?_
       ·exact Nat.le_refl _
       iterate 2 (case _=>(first|exact yT|refine yS ?_))
       repeat (first|refine zR (ja5 @jkR.eq_1 @ZaF.eq_1 @ZaF.eq_2 iR @de) ?_|exact zU (ja5 @jkR.eq_1 @ZaF.eq_1 @ZaF.eq_2 iR @de))
      ·rw [if_neg c5] at hr
       subst hr
       have d5:decide ((most:Int)-(out.length:Int)<(x:Int))=false:=decide_eq_false zO
       obtain ⟨w,hw⟩:∃ w,w=(b.drop (q+4)).take x:=⟨_,rfl⟩
       have hwl:w.length=x:=by rw [hw,List.length_take,List.length_drop];omega
       have hwg:∀ k,k<x→w.getD k 0=b.getD (q+4+k) 0:=fun k hk=>by
        rw [hw];simp only [List.getD];rw [List.getElem?_take,if_pos hk,List.getElem?_drop]
       rw [←hw]
       refine Zab [(1000,0),(1001,0)] 2000 h1 zB zB ?_ ?_ ?_
       iterate 2 (case _=>(first|exact yU BG2|refine yR BG2 ?_))
       repeat (first|refine zR BG0 ?_|exact zU BG0)
       refine Zab [(1000,0),(1001,0)] 3000 h2 zB zB ?_ ?_ ?_
       iterate 2 (case _=>(first|exact yU BG2|refine yR BG2 ?_))
       repeat (first|refine zR (ja4 @stO.eq_1 @stR.eq_1 iR @d3) ?_|exact zU (ja4 @stO.eq_1 @stR.eq_1 iR @d3))
       refine Zab [(1000,0),(1001,0)] 4000 h3 zB zB ?_ ?_ ?_
       iterate 2 (case _=>(first|exact yU BG2|refine yR BG2 ?_))
       repeat (first|refine zR (ja5 @stO.eq_1 @stR.eq_1 iR @d4 @d5) ?_|exact zU (ja5 @stO.eq_1 @stR.eq_1 iR @d4 @d5))
       refine SWp.loop (α:=Nat × Nat × Nat) (fun z=>mk 82 z.2.2 [(0,.op 1000 0 0),(2,int (x:Int)),(4,int (z.1:Int))] [(1000,0,.row false (stR nb B most z.2.1 (out.length+z.1) (8*(q+4+z.1)) 0)),(1001,z.2.1,.row (nl0 (out.length+z.1)) ((out++w.take z.1).map u8))])
        (fun z=>z.1≤x∧z.2.2≤100+2*z.1) (fun z=>x-z.1) (0,0,4) ⟨Nat.zero_le _,by simp only;omega⟩ (Zal rfl ?_ ?_ ?_) ?_
       ·exact Nat.le_refl _
       ·(first|exact yT|refine yS ?_)
       ·have e0:((q*8:Nat):Int)+16+16=((8*(q+4):Nat):Int):=zO
        (first|exact yU (ja3 @stR.eq_1 iR @e0)|refine yR (ja3 @stR.eq_1 iR @e0) ?_)
       rintro ⟨k,g,c⟩ ⟨hk,hc⟩ -
       simp only at hk hc
       have htl:(w.take k).length=k:=by rw [List.length_take,hwl];omega
       repeat (first|refine zS ?_|exact zT)
       refine SWp.cond rfl (fun h=>?_) (fun h=>?_)
       ·simp only [decide_eq_true_eq] at h
        have hkx:k<x:=zO
        have hn8:=hNum (8*(q+4+k)) 0 zO (out++w.take k) 8 zO
        rw [ok zO,ZCM zO,←hwg k hkx] at hn8
        have hsn:=Zm0 (l:=w) (k:=k) (d:=0) zO
        obtain ⟨v,hv⟩:∃ v,v=w.getD k 0:=⟨_,rfl⟩
        rw [←hv] at hn8 hsn
        have hv8:=v.toNat_lt
        have hn0:nl0 (out.length+(k+1))=false:=Zci zO
        have e8:8*(q+4+k)+8=8*(q+4+(k+1)):=zO
        have hol:(out++w.take k).length=out.length+k:=by rw [List.length_append,htl]
        repeat (first|refine zR BG3 ?_|exact zU BG3)
        refine Zab [(1000,0),(1001,g)] 5000 hn8 zB zB ?_ ?_ ?_
        iterate 2 (case _=>(first|exact yU (ja4 @stI.eq_1 @stR.eq_1 iR @htl)|refine yR (ja4 @stI.eq_1 @stR.eq_1 iR @htl) ?_))
        repeat (first|refine zR (ja5 @stO.eq_1 @stR.eq_1 iR @e8 @htl) ?_|exact zU (ja5 @stO.eq_1 @stR.eq_1 iR @e8 @htl))
        refine At.of (k+1,c+1,c+2) ⟨by simp only;omega,by simp only;omega⟩ (by simp only;omega) rfl rfl ?_ ?_ ?_
        ·simp only;omega
        iterate 2 (case _=>(first|exact yU (ja5 @stR.eq_1 @hsn @hn0 iR @Nat.add_assoc)|refine yR (ja5 @stR.eq_1 @hsn @hn0 iR @Nat.add_assoc) ?_))
       ·simp only [decide_eq_false_iff_not] at h
        obtain rfl:k=x:=zO
        have htw:w.take k=w:=List.take_of_length_le zO
        rw [htw]
        refine SWp.le (Zal (N:=82) (gc:=200000) (l:=[(0,.op 1000 0 0)]) (h:=[(1000,0,.row false (stR nb B most g (out.length+k) (8*(q+4+k)) 0)),(1001,g,.row (nl0 (out.length+k)) ((out++w).map u8))]) rfl ?_ ?_ ?_) ?_
        ·show c≤200000;omega
        iterate 2 (case _=>(first|exact yU BG3|refine yR BG3 ?_))
        refine SWp.renew 1001 g (o:=.row (nl0 (out.length+k)) ((out++w).map u8)) yT ?_
        refine SWp.le (Zal (N:=82) (gc:=200001) (l:=[(0,.op 1000 0 0)]) (h:=[(1000,0,.row false (stR nb B most 200000 (out.length+k) (8*(q+4+k)) 0)),(1001,200000,.row (nl0 (out.length+k)) ((out++w).map u8))]) rfl ?_ ?_ ?_) ?_
        ·exact Nat.le_refl _
        iterate 2 (case _=>(first|exact yU BG16|refine yR BG16 ?_))
        repeat (first|refine zR (ja6 @ZaF.eq_1 @ZaF.eq_2 @stO.eq_1 @stR.eq_1 iR @hwl) ?_|exact zU (ja6 @ZaF.eq_1 @ZaF.eq_2 @stO.eq_1 @stR.eq_1 iR @hwl))
        all_goals trace_state
 ·have d0:decide (((j % 8:Nat):Int)=0)=false:=decide_eq_false zO
  repeat (first|refine zR (ja3 @stR.eq_1 iR @d0) ?_|exact zU (ja3 @stR.eq_1 iR @d0))
  refine At.of (j+1) ⟨by omega,by omega⟩ zO rfl rfl (Nat.le_refl _) ?_ ?_
  iterate 2 (case _=>(first|exact yU BG3|refine yR BG3 ?_))
theorem ZpS [Tabs Tryz.prog] (n:Nat) (h0:0<n) (hn:n≤1000000):HCon Tryz.prog Zfz [.sc (.slice none 0 0),int n] [] (.own 22 1 none 0 0) [(22,1,.row false [])] 2:=by
 refine HCon.of' mix Tryz.func117 rfl Tryz.ntmps117 Zjq Zjr zB (by simp [AV.gl,AV.gl.glL,int]) zB ?_
 unfold ZfR
 have d1:decide ((n:Int)<0)=false:=decide_eq_false zO
 have d2:decide ((n:Int)>0)=true:=decide_eq_true zO
 have d3:(n==0)=false:=by simp;omega
 iterate 16 (first|refine zR (ja3 @d1 @d2 @d3) ?_|exact zU (ja3 @d1 @d2 @d3))
 refine SWp.cut 22 0 (g:=1) (nl:=false) (cells:=(List.replicate n [AV.sc (.int .i64 0)]).flatten) yT ?_
 repeat (first|refine zS ?_|exact zT)
end Go.Proofs.YtfplkgciebjehabGreatDoor.Aw
