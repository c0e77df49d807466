/- Parts of the proof of GzipUnpacks. -/
import Derived.Test.YtfplkgciebjehabGreatDoorQGzipUnpacksBI
import Derived.Test.YtfplkgciebjehabGreatDoorQGzipUnpacksBH
import Derived.Test.YtfplkgciebjehabGreatDoorQGzipUnpacksBG
import Derived.Test.YtfplkgciebjehabGreatDoorQGzipUnpacksAX
import Derived.Test.YtfplkgciebjehabGreatDoorRows
import Derived.MakeChecks
import Derived.Lib.LaidTab
namespace Go.Proofs.YtfplkgciebjehabGreatDoor.Aw
open Go
set_option linter.defProp false
set_option maxRecDepth 100000
set_option linter.unusedSimpArgs false
set_option linter.unusedVariables false
abbrev MR:=Nat × List UInt8 × Nat × List UInt8 × Nat
def noR (e:Nat):MR:=(e,[],0,[],0)
def ZBw (b:List UInt8) (room F:Nat) (t:List UInt8 × Nat × Nat) (mt:Nat):MR :=
 if t.2.2≠0 then noR t.2.2 else if (ZoA F (b.drop t.2.1) room).2.2≠0 then noR (ZoA F (b.drop t.2.1) room).2.2
 else if b.length<t.2.1+(ZoA F (b.drop t.2.1) room).2.1+8 then noR 2
 else if (b.drop (t.2.1+(ZoA F (b.drop t.2.1) room).2.1)).take 8=tlB (ZoA F (b.drop t.2.1) room).1 then (0,t.1,mt,(ZoA F (b.drop t.2.1) room).1,t.2.1+(ZoA F (b.drop t.2.1) room).2.1+8) else noR 5
def Zkw (b:List UInt8) (room F:Nat):MR :=
 match b with
 | x0::x1::x2::x3::W=>if W.length<6 then noR 2 else if hdE x0 x1 x2 x3≠0 then noR (hdE x0 x1 x2 x3) else ZBw (x0::x1::x2::x3::W) room F (ZhW (x0::x1::x2::x3::W) x3.toNat 10) (leN (W.take 4))
 | _=>noR 2
def Zzd (r:MR):AV:=if r.1=0 then .tup [.agg [str r.2.1,int (r.2.2.1:Int),.sl (nl0 r.2.2.2.1.length) none (r.2.2.2.1.map u8)],int 0] else .tup [.agg [str [],int 0,.sc (.slice none 0 0)],int (r.1:Int)]
def Zze (nl:Bool) (b:List UInt8) (r:MR):List (Nat × Nat × AO):=if r.1=0 then [(1000,0,.row false (rdR nl b r.2.2.2.2))] else []
theorem ZsL {b:List UInt8} {f i:Nat} (h:i≤b.length):(ZhW b f i).2.1≤b.length:=by
 have h3:=Zxg (f:=f) (Zxf (f:=f) (p:=tS1 b f i) (Zxe (f:=f) h))
 unfold ZhW tS4
 simp only
 split
 ·split
  ·exact h3
  split
  ·exact h3
  ·simp only;omega
 ·exact h3
theorem Zqc {F:Nat} {b:List UInt8} {m:Nat} (h:m≤16777216):Zqj F b (m:Int)=ZoA F b m:=by rw [Zqj,if_neg zO,Int.toNat_natCast]
set_option maxHeartbeats 1000000 in
theorem ZrU [Tabs Tryz.prog] (ht:Tabs.tab Tryz.prog 1=some (Zim.map nA)) (nl:Bool) (b:List UInt8) (hl:b.length≤4096) (hn:nl=true→b=[]) (room:Nat) (hr:room≤1000000) (F:Nat) (hF:8*b.length<F) (h10:10≤b.length) (r:MR) (hm:r=Zkw b room F) :
  HCon Tryz.prog Zbe [.op 1000 0 0,int (room:Int)] [.row false (rdR nl b 0)] (Zzd r) (Zze nl b r) 60:=by
 match b,h10 with
 | x0::x1::x2::x3::W,h10 =>
 have hW:6≤W.length:=by simp only [List.length_cons] at h10;omega
 have p1:=Zxi nl x0 x1 x2 x3 (W.take 6) (W.drop 6) (x0::x1::x2::x3::W) (by rw [List.length_take];omega) (by rw [List.take_append_drop]) zO
 rw [List.take_take,show min 4 6=4 from rfl] at p1
 rw [Zkw,if_neg zO] at hm
 have p2:=Zxh nl (x0::x1::x2::x3::W) zO 10 h10 x3
 have hp:=ZsL (f:=x3.toNat) h10
 obtain ⟨t,htt⟩:∃ t,t=ZhW (x0::x1::x2::x3::W) x3.toNat 10:=⟨_,rfl⟩
 obtain ⟨mt,hmt⟩:∃ mt,mt=leN (W.take 4):=⟨_,rfl⟩
 rw [←htt] at p2 hm hp
 rw [←hmt] at p1 hm
 obtain ⟨B,hB⟩:∃ B,B=x0::x1::x2::x3::W:=⟨_,rfl⟩
 rw [←hB] at p1 p2 hm hp hl hF hn ⊢
 clear htt hmt hW h10 hB
 unfold hdR at p1
 obtain ⟨E,hE⟩:∃ E,E=hdE x0 x1 x2 x3:=⟨_,rfl⟩
 rw [←hE] at p1 hm
 refine HCon.of' mix Tryz.func31 rfl Tryz.ntmps31 ZcX ZcY zB (by simp [AV.gl,AV.gl.glL,int]) Zcw ?_
 unfold ZbE
 by_cases c0:E=0
 ·rw [if_neg zO] at hm
  rw [if_pos c0] at p1
  obtain ⟨nm,p,e⟩:=t
  simp only at p2 hp hm
  unfold ZBw at hm
  dsimp only at hm
  by_cases c1:e=0
  ·rw [if_neg zO] at hm
   subst c1
   have hI:=ZoM ht nl (B.drop p) (by rw [List.length_drop];omega) (fun h=>by rw [hn h];exact List.drop_nil) (room:Int) F (by rw [List.length_drop];omega)
   rw [Zqc zO] at hI
   rcases ZiD (b:=B.drop p) (m:=room) (F:=F) with ⟨e2,hi,he,he10⟩ | ⟨D,j,-,hi,hD,hj0,hj⟩
   ·rw [hi] at hm hI
    simp only at hm
    rw [if_pos he] at hm
    rw [Zxt,if_neg he] at hI
    have p3:=ZuH nl B zO p _ rfl (by rw [List.length_drop];omega) hp (room:Int) e2 hI he
    have d2:decide ((e2:Int)=0)=false:=decide_eq_false zO
    subst hm
    rw [Zzd,Zze,noR,if_neg he,if_neg he]
    repeat (first|refine xS ?_|exact xT)
    refine Zab [(1000,0)] 2000 p1 zB zB ?_ ?_ ?_
    iterate 2 (case _=>(first|exact vU @rdR.eq_1|refine vR @rdR.eq_1 ?_))
    repeat (first|refine xR @rdR.eq_1 ?_|exact xU @rdR.eq_1)
    refine Zab [(1000,0)] 3000 p2 zB zB ?_ ?_ ?_
    iterate 2 (case _=>(first|exact vU @rdR.eq_1|refine vR @rdR.eq_1 ?_))
    repeat (first|refine xR @rdR.eq_1 ?_|exact xU @rdR.eq_1)
    refine Zab [(1000,0)] 4000 p3 zB zB ?_ ?_ ?_
    iterate 2 (case _=>(first|exact vU @rdR.eq_1|refine vR @rdR.eq_1 ?_))
    repeat (first|refine xR (ja2 @rdR.eq_1 @d2) ?_|exact xU (ja2 @rdR.eq_1 @d2))
   ·rw [List.length_drop] at hj
    obtain ⟨u,hu⟩:∃ u,u=(j+7) / 8:=⟨_,rfl⟩
    rw [←hu] at hi
    have huR:p+u≤B.length:=zO
    rw [hi] at hm hI
    simp only [ne_eq,not_true_eq_false,if_false] at hm
    rw [Zxt,if_pos rfl] at hI
    have p3:=Zp6 nl B zO p _ rfl (by rw [List.length_drop];omega) hp (room:Int) (nl0 D.length) D u hI (by rw [List.length_drop];omega)
    by_cases c3:B.length<p+u+8
    ·rw [if_pos c3] at hm
     have p4:=ZrT nl B zO (p+u) huR c3 (nl0 D.length) D
     subst hm
     rw [Zzd,Zze,noR,if_neg (by decide),if_neg (by decide)]
     repeat (first|refine xS ?_|exact xT)
     refine Zab [(1000,0)] 2000 p1 zB zB ?_ ?_ ?_
     iterate 2 (case _=>(first|exact vU @rdR.eq_1|refine vR @rdR.eq_1 ?_))
     repeat (first|refine xR @rdR.eq_1 ?_|exact xU @rdR.eq_1)
     refine Zab [(1000,0)] 3000 p2 zB zB ?_ ?_ ?_
     iterate 2 (case _=>(first|exact vU @rdR.eq_1|refine vR @rdR.eq_1 ?_))
     repeat (first|refine xR @rdR.eq_1 ?_|exact xU @rdR.eq_1)
     refine Zab [(1000,0)] 4000 p3 zB zB ?_ ?_ ?_
     iterate 2 (case _=>(first|exact vU @rdR.eq_1|refine vR @rdR.eq_1 ?_))
     repeat (first|refine xR @rdR.eq_1 ?_|exact xU @rdR.eq_1)
     refine Zab [(1000,0)] 5000 p4 zB zB ?_ ?_ ?_
     iterate 2 (case _=>(first|exact vU @rdR.eq_1|refine vR @rdR.eq_1 ?_))
     repeat (first|refine xR @rdR.eq_1 ?_|exact xU @rdR.eq_1)
    ·rw [if_neg c3] at hm
     have p4:=ZnM nl B zO (p+u) zO (nl0 D.length) D zO _ rfl _ rfl
     by_cases c4:(B.drop (p+u)).take 8=tlB D
     ·rw [if_pos c4] at hm p4
      subst hm
      rw [Zzd,Zze,if_pos rfl,if_pos rfl]
      repeat (first|refine xS ?_|exact xT)
      refine Zab [(1000,0)] 2000 p1 zB zB ?_ ?_ ?_
      iterate 2 (case _=>(first|exact vU @rdR.eq_1|refine vR @rdR.eq_1 ?_))
      repeat (first|refine xR @rdR.eq_1 ?_|exact xU @rdR.eq_1)
      refine Zab [(1000,0)] 3000 p2 zB zB ?_ ?_ ?_
      iterate 2 (case _=>(first|exact vU @rdR.eq_1|refine vR @rdR.eq_1 ?_))
      repeat (first|refine xR @rdR.eq_1 ?_|exact xU @rdR.eq_1)
      refine Zab [(1000,0)] 4000 p3 zB zB ?_ ?_ ?_
      iterate 2 (case _=>(first|exact vU @rdR.eq_1|refine vR @rdR.eq_1 ?_))
      repeat (first|refine xR @rdR.eq_1 ?_|exact xU @rdR.eq_1)
      refine Zab [(1000,0)] 5000 p4 zB zB ?_ ?_ ?_
      iterate 2 (case _=>(first|exact vU @rdR.eq_1|refine vR @rdR.eq_1 ?_))
      repeat (first|refine xR @rdR.eq_1 ?_|exact xU @rdR.eq_1)
     ·rw [if_neg c4] at hm p4
      subst hm
      rw [Zzd,Zze,noR,if_neg (by decide),if_neg (by decide)]
      repeat (first|refine xS ?_|exact xT)
      refine Zab [(1000,0)] 2000 p1 zB zB ?_ ?_ ?_
      iterate 2 (case _=>(first|exact vU @rdR.eq_1|refine vR @rdR.eq_1 ?_))
      repeat (first|refine xR @rdR.eq_1 ?_|exact xU @rdR.eq_1)
      refine Zab [(1000,0)] 3000 p2 zB zB ?_ ?_ ?_
      iterate 2 (case _=>(first|exact vU @rdR.eq_1|refine vR @rdR.eq_1 ?_))
      repeat (first|refine xR @rdR.eq_1 ?_|exact xU @rdR.eq_1)
      refine Zab [(1000,0)] 4000 p3 zB zB ?_ ?_ ?_
      iterate 2 (case _=>(first|exact vU @rdR.eq_1|refine vR @rdR.eq_1 ?_))
      repeat (first|refine xR @rdR.eq_1 ?_|exact xU @rdR.eq_1)
      refine Zab [(1000,0)] 5000 p4 zB zB ?_ ?_ ?_
      iterate 2 (case _=>(first|exact vU @rdR.eq_1|refine vR @rdR.eq_1 ?_))
      repeat (first|refine xR @rdR.eq_1 ?_|exact xU @rdR.eq_1)
  ·rw [if_pos (by simpa using c1)] at hm
   have d1:decide ((e:Int)=0)=false:=decide_eq_false zO
   subst hm
   rw [Zzd,Zze,noR,if_neg c1,if_neg c1]
   repeat (first|refine xS ?_|exact xT)
   refine Zab [(1000,0)] 2000 p1 zB zB ?_ ?_ ?_
   iterate 2 (case _=>(first|exact vU @rdR.eq_1|refine vR @rdR.eq_1 ?_))
   repeat (first|refine xR @rdR.eq_1 ?_|exact xU @rdR.eq_1)
   refine Zab [(1000,0)] 3000 p2 zB zB ?_ ?_ ?_
   iterate 2 (case _=>(first|exact vU @rdR.eq_1|refine vR @rdR.eq_1 ?_))
   repeat (first|refine xR (ja2 @rdR.eq_1 @d1) ?_|exact xU (ja2 @rdR.eq_1 @d1))
 ·rw [if_pos zO] at hm
  rw [if_neg c0] at p1
  have d0:decide ((E:Int)=0)=false:=decide_eq_false zO
  subst hm
  rw [Zzd,Zze,noR,if_neg c0,if_neg c0]
  repeat (first|refine xS ?_|exact xT)
  refine Zab [(1000,0)] 2000 p1 zB zB ?_ ?_ ?_
  iterate 2 (case _=>(first|exact vU @rdR.eq_1|refine vR @rdR.eq_1 ?_))
  repeat (first|refine xR (ja2 @rdR.eq_1 @d0) ?_|exact xU (ja2 @rdR.eq_1 @d0))
theorem ZrV {b:List UInt8} {room F:Nat} (h:(Zkw b room F).1=0):10≤b.length∧8≤(Zkw b room F).2.2.2.2∧(Zkw b room F).2.2.2.2≤b.length∧(Zkw b room F).2.2.2.1.length≤room:=by
 match b with
 | [] | [_] | [_,_] | [_,_,_]=>simp [Zkw,noR] at h
 | x0::x1::x2::x3::W =>
  rw [Zkw] at h ⊢
  split at h
  ·simp [noR] at h
  rename_i c6
  rw [if_neg c6]
  split at h
  ·rename_i c;exact absurd h (by simpa [noR] using c)
  rename_i c7
  rw [if_neg c7]
  have hb:10≤(x0::x1::x2::x3::W).length:=by simp only [List.length_cons];omega
  refine ⟨hb,?_⟩
  obtain ⟨t,ht⟩:∃ t,t=ZhW (x0::x1::x2::x3::W) x3.toNat 10:=⟨_,rfl⟩
  obtain ⟨B,hB⟩:∃ B,B=x0::x1::x2::x3::W:=⟨_,rfl⟩
  rw [←ht,←hB] at h ⊢
  unfold ZBw at h ⊢
  split at h
  ·rename_i c;exact absurd h (by simpa [noR] using c)
  rename_i c1
  rw [if_neg c1]
  split at h
  ·rename_i c;exact absurd h (by simpa [noR] using c)
  rename_i c2
  rw [if_neg c2]
  split at h
  ·simp [noR] at h
  rename_i c3
  rw [if_neg c3]
  split at h
  ·rename_i c4
   rw [if_pos c4]
   simp only
   refine ⟨by omega,by omega,?_⟩
   rcases ZiD (b:=B.drop t.2.1) (m:=room) (F:=F) with ⟨e,hi,he,-⟩ | ⟨o,j,-,hi,ho,-,-⟩
   ·rw [hi] at c2;exact absurd he (by simpa using c2)
   ·rw [hi];exact ho
  ·simp [noR] at h
def ZuM (b:List UInt8) (F:Nat):Nat→Nat→Nat→List Mb→Nat × Nat × List Mb
 | 0,_,_,_=>(99,0,[])
 | f+1,at_,room,ms =>
  if (Zkw (b.drop at_) room F).1≠0 then ((Zkw (b.drop at_) room F).1,at_,[])
  else if at_+(Zkw (b.drop at_) room F).2.2.2.2<b.length then ZuM b F f (at_+(Zkw (b.drop at_) room F).2.2.2.2) (room-(Zkw (b.drop at_) room F).2.2.2.1.length) (ms++[((Zkw (b.drop at_) room F).2.1,(Zkw (b.drop at_) room F).2.2.1,(Zkw (b.drop at_) room F).2.2.2.1,[])])
  else (0,0,ms++[((Zkw (b.drop at_) room F).2.1,(Zkw (b.drop at_) room F).2.2.1,(Zkw (b.drop at_) room F).2.2.2.1,[])])
theorem ZnS {b:List UInt8} {room F:Nat} (h:b.length<10):Zkw b room F=noR 2:=by
 match b,h with
 | [],_ | [_],_ | [_,_],_ | [_,_,_],_=>rfl
 | _::_::_::_::W,h=>rw [Zkw,if_pos (by simp only [List.length_cons] at h;omega)]
def Zxj (R:Nat × Nat × List Mb):AV:=if R.1=0 then .tup [.sl false (some 3) (R.2.2.map mbV),.agg [str [],int 0,int 0]] else .tup [.sc (.slice none 0 0),.agg [str [],int (R.2.1:Int),int (R.1:Int)]]
theorem Zqd {R:Nat × Nat × List Mb}:(Zxj R).free=true:=by
 unfold Zxj
 split
 ·simp only [AV.free,AV.free.freeL,ZsF,str,int,Bool.and_self]
 ·rfl
def upI (b:List UInt8) (F:Nat) (R:Nat × Nat × List Mb) (x:Nat × Nat × Nat × List Mb):Prop :=
 x.2.1≤b.length∧x.2.2.1≤1000000∧x.2.2.2.length=x.1∧x.1≤x.2.1∧(x.1=0→x.2.1=0)∧(x.2.1=0∨x.2.1<b.length→∃ f,b.length-x.2.1<f∧R=ZuM b F f x.2.1 x.2.2.1 x.2.2.2)∧(¬ (x.2.1=0∨x.2.1<b.length)→R=(0,0,x.2.2.2))
def BJ0:=ja2 @rdR.eq_1 @List.length_map.{0,0}
def BJ1:=ja3 @mbC.eq_1 @List.flatMap_nil.{0,0} @Zay
set_option maxHeartbeats 2000000 in
theorem ZrW [Tabs Tryz.prog] (ht:Tabs.tab Tryz.prog 1=some (Zim.map nA)) (nl:Bool) (B:List UInt8) (hl:B.length≤4096) (hn:nl=true→B=[]) (room:Nat) (hr:room≤1000000) (F:Nat) (hF:8*B.length<F) (fu:Nat) (hfu:B.length<fu) (R:Nat × Nat × List Mb) (hR:R=ZuM B F fu 0 room []) :
  Con Tryz.prog ZdG [.sl nl none (B.map u8),int (room:Int)] (Zxj R):=by
 refine Con.of' mix Tryz.func10 rfl Tryz.ntmps10 Zho Zhp zB (by simp only [AV.free,AV.free.freeL,Zag,int,Bool.and_self]) Zqd ?_
 unfold Ze8
 have d1:decide ((room:Int)<0)=false:=decide_eq_false zO
 have d2:decide ((16777216:Int)<(room:Int))=false:=decide_eq_false zO
 have htl:B.take B.length=B:=List.take_length
 repeat (first|refine xR (ja2 @d1 @d2) ?_|exact xU (ja2 @d1 @d2))
 refine SWp.adopt 6 (some 3) vT ?_
 refine SWp.loop (α:=Nat × Nat × Nat × List Mb) (fun x=>mk 59 (63*x.1+2) [(0,.sl nl none (B.map u8)),(1,int (x.2.2.1:Int)),(4,.sc (.slice none 0 0)),(5,.op 5 0 0),(6,.own 6 (63*x.1+1) (some 3) 0 x.1),(7,int (x.2.1:Int))] [(5,0,.row false [str [],int 0,int 0]),(6,63*x.1+1,.row (nl0 x.1) (mbC x.2.2.2))])
  (upI B F R) (fun x=>B.length-x.2.1) (0,0,room,[]) ⟨Nat.zero_le _,hr,rfl,Nat.le_refl _,fun _=>rfl,fun _=>⟨fu,by simp only;omega,hR⟩,fun h=>absurd (.inl rfl) h⟩ (Zal rfl ?_ ?_ ?_) ?_
 ·exact Nat.le_refl _
 iterate 2 (case _=>(first|exact vU BJ1|refine vR BJ1 ?_))
 rintro ⟨k,a,rm,ms⟩ ⟨ha,hrm,hms,hka,hk0,hgo,hst⟩ -
 simp only at ha hrm hms hka hk0 hgo hst ⊢
 by_cases c:a=0∨a<B.length
 ·obtain ⟨f,hf,hRf⟩:=hgo c
  obtain ⟨f,rfl⟩:∃ g,f=g+1:=⟨f-1,by omega⟩
  have hc:decide ((a:Int)=0)=true∨(decide ((a:Int)=0)=false∧decide ((a:Int)<(B.length:Int))=true):=by
   by_cases h:a=0
   ·exact .inl (decide_eq_true zO)
   ·exact .inr ⟨decide_eq_false zO,decide_eq_true zO⟩
  obtain ⟨S,hS⟩:∃ S,S=B.drop a:=⟨_,rfl⟩
  have hSB:B.drop a=S:=hS.symm
  have hSl:S.length=B.length-a:=by rw [hS,List.length_drop]
  have hSn:nl=true→S=[]:=fun h=>by rw [hS,hn h];exact List.drop_nil
  rw [ZuM,hSB] at hRf
  by_cases c10:S.length<10
  ·rw [ZnS c10] at hRf
   rw [if_pos (by simp [noR])] at hRf
   simp only [noR] at hRf
   subst hRf
   have p1:=Zp8 nl S c10 (rm:Int)
   rw [Zxj,if_neg (show ¬ ((2:Nat)=0) by decide)]
   rcases hc with d0 | ⟨d0,dL⟩
   ·repeat (first|refine xR (ja4 @d0 @List.length_map.{0,0} @htl @hSB) ?_|exact xU (ja4 @d0 @List.length_map.{0,0} @htl @hSB))
    refine Zab [(30,63*k+2)] 2000 p1 zB zB ?_ ?_ ?_
    iterate 2 (case _=>(first|exact vU @rdR.eq_1|refine vR @rdR.eq_1 ?_))
    repeat (first|refine xR BJ0 ?_|exact xU BJ0)
   ·repeat (first|refine xR (ja5 @d0 @dL @List.length_map.{0,0} @htl @hSB) ?_|exact xU (ja5 @d0 @dL @List.length_map.{0,0} @htl @hSB))
    refine Zab [(30,63*k+2)] 2000 p1 zB zB ?_ ?_ ?_
    iterate 2 (case _=>(first|exact vU @rdR.eq_1|refine vR @rdR.eq_1 ?_))
    repeat (first|refine xR BJ0 ?_|exact xU BJ0)
  have p1:=ZrU ht nl S zO hSn rm hrm F zO zO _ rfl
  have hok:=ZrV (b:=S) (room:=rm) (F:=F)
  obtain ⟨r,hrr⟩:∃ r,r=Zkw S rm F:=⟨_,rfl⟩
  rw [←hrr] at p1 hok hRf
  obtain ⟨e,nm,mt,D,nx⟩:=r
  simp only at hok hRf
  by_cases ce:e=0
  ·subst ce
   obtain ⟨o1,o2,o3,o4⟩:=hok rfl
   rw [if_neg (by decide)] at hRf
   rw [Zzd,Zze,if_pos rfl,if_pos rfl] at p1
   have e1:((rm-D.length:Nat):Int)=(rm:Int)-(D.length:Int):=zO
   have e2:((a+nx:Nat):Int)=(a:Int)+(nx:Int):=zO
   have e3:nl0 (k+1)=false:=rfl
   have hml:k*3=(mbC ms).length:=by rw [ZiB,hms]
   have hmc:mbC (ms++[(nm,mt,D,[])])=mbC ms++[str nm,int (mt:Int),.sl (nl0 D.length) none (D.map u8)]:=ZsG
   have hI:upI B F R (k+1,a+nx,rm-D.length,ms++[(nm,mt,D,[])]):=by
    refine ⟨by simp only;omega,by simp only;omega,by simp only [List.length_append,List.length_cons,List.length_nil];omega,by simp only;omega,fun h=>absurd h zB,fun h=>?_,fun h=>?_⟩
    ·simp only at h ⊢
     refine ⟨f,by omega,?_⟩
     rw [hRf,if_pos zO]
    ·simp only at h ⊢
     rw [hRf,if_neg zO]
   rcases hc with d0 | ⟨d0,dL⟩
   ·repeat (first|refine xR (ja4 @d0 @List.length_map.{0,0} @htl @hSB) ?_|exact xU (ja4 @d0 @List.length_map.{0,0} @htl @hSB))
    refine Zab [(30,63*k+2)] 2000 p1 zB zB ?_ ?_ ?_
    iterate 2 (case _=>(first|exact vU @rdR.eq_1|refine vR @rdR.eq_1 ?_))
    repeat (first|refine xR BJ0 ?_|exact xU BJ0)
    refine ⟨⟨_,rfl,rfl⟩,⟨fun y hy=>⟨_,List.mem_singleton.1 hy⟩,hml,by omega,by omega⟩,?_⟩
    repeat (first|refine xR BJ0 ?_|exact xU BJ0)
    refine At.of (k+1,a+nx,rm-D.length,ms++[(nm,mt,D,[])]) hI (by simp only;omega) rfl rfl (Nat.le_refl _) ?_ ?_
    ·(first|exact vU (ja2 @e1 @e2)|refine vR (ja2 @e1 @e2) ?_)
     omega
    ·(first|exact vU (ja2 @hmc @e3)|refine vR (ja2 @hmc @e3) ?_)
     exact ⟨by omega,rfl⟩
   ·repeat (first|refine xR (ja5 @d0 @dL @List.length_map.{0,0} @htl @hSB) ?_|exact xU (ja5 @d0 @dL @List.length_map.{0,0} @htl @hSB))
    refine Zab [(30,63*k+2)] 2000 p1 zB zB ?_ ?_ ?_
    iterate 2 (case _=>(first|exact vU @rdR.eq_1|refine vR @rdR.eq_1 ?_))
    repeat (first|refine xR BJ0 ?_|exact xU BJ0)
    refine ⟨⟨_,rfl,rfl⟩,⟨fun y hy=>⟨_,List.mem_singleton.1 hy⟩,hml,by omega,by omega⟩,?_⟩
    repeat (first|refine xR BJ0 ?_|exact xU BJ0)
    refine At.of (k+1,a+nx,rm-D.length,ms++[(nm,mt,D,[])]) hI (by simp only;omega) rfl rfl (Nat.le_refl _) ?_ ?_
    ·(first|exact vU (ja2 @e1 @e2)|refine vR (ja2 @e1 @e2) ?_)
     omega
    ·(first|exact vU (ja2 @hmc @e3)|refine vR (ja2 @hmc @e3) ?_)
     exact ⟨by omega,rfl⟩
  ·rw [if_pos ce] at hRf
   have de:decide ((e:Int)=0)=false:=decide_eq_false zO
   rw [Zzd,Zze,if_neg ce,if_neg ce] at p1
   simp only at p1
   subst hRf
   rw [Zxj,if_neg ce]
   rcases hc with d0 | ⟨d0,dL⟩
   ·repeat (first|refine xR (ja4 @d0 @List.length_map.{0,0} @htl @hSB) ?_|exact xU (ja4 @d0 @List.length_map.{0,0} @htl @hSB))
    refine Zab [(30,63*k+2)] 2000 p1 zB zB ?_ ?_ ?_
    iterate 2 (case _=>(first|exact vU @rdR.eq_1|refine vR @rdR.eq_1 ?_))
    repeat (first|refine xR (ja3 @rdR.eq_1 @de @List.length_map.{0,0}) ?_|exact xU (ja3 @rdR.eq_1 @de @List.length_map.{0,0}))
   ·repeat (first|refine xR (ja5 @d0 @dL @List.length_map.{0,0} @htl @hSB) ?_|exact xU (ja5 @d0 @dL @List.length_map.{0,0} @htl @hSB))
    refine Zab [(30,63*k+2)] 2000 p1 zB zB ?_ ?_ ?_
    iterate 2 (case _=>(first|exact vU @rdR.eq_1|refine vR @rdR.eq_1 ?_))
    repeat (first|refine xR (ja3 @rdR.eq_1 @de @List.length_map.{0,0}) ?_|exact xU (ja3 @rdR.eq_1 @de @List.length_map.{0,0}))
 ·have hRe:=hst c
  have d0:decide ((a:Int)=0)=false:=decide_eq_false zO
  have dL:decide ((a:Int)<(B.length:Int))=false:=decide_eq_false zO
  have hk1:0<k:=by
   rcases Nat.eq_zero_or_pos k with h | h
   ·exact absurd (.inl (hk0 h)) c
   ·exact h
  have hcn:=Zk6 (l:=ms) hms.symm
  have hml:(mbC ms).length=k*3:=by rw [ZiB,hms]
  have hnl:=Zci hk1
  subst hRe
  rw [Zxj,if_pos rfl]
  repeat (first|refine xR (ja6 @d0 @dL @List.length_map.{0,0} @hcn @hml @hnl) ?_|exact xU (ja6 @d0 @dL @List.length_map.{0,0} @hcn @hml @hnl))
theorem Zzf (n k:Nat):(leB n (k+1)).reverse=UInt8.ofNat (n / 2^(8*k))::(leB n k).reverse:=by
 simp [leB,List.range_succ]
def BJ2:=ja7 @sw.eq_1 @Zli @swH.eq_1 @leB.eq_1 @List.range_zero @List.reverse_nil.{0} @Zay
theorem ZsM [Tabs Tryz.prog] (n:Nat) (hn:n<18446744073709551616) (size:Int) (h1:-9223372036854775808≤size) (h2:size≤9223372036854775807):Con Tryz.prog ZgR [.sc (.int .u64 n),int size] (beR n size):=by
 refine Con.of' mix Tryz.func112 rfl Tryz.ntmps112 ZkS ZkT zB rfl (by unfold beR;split <;> simp only [AV.free,Zag]) ?_
 unfold Zg2
 by_cases c1:size<1
 ·have d1:decide (size<1)=true:=decide_eq_true c1
  have hu:beR n size = .sc (.slice none 0 0):=if_pos (.inl c1)
  repeat (first|refine xR (ja2 @d1 @hu) ?_|exact xU (ja2 @d1 @hu))
 ·have d1:decide (size<1)=false:=decide_eq_false c1
  by_cases c2:8<size
  ·have d2:decide (8<size)=true:=decide_eq_true c2
   have hu:beR n size = .sc (.slice none 0 0):=if_pos (.inr c2)
   repeat (first|refine xR (ja3 @d1 @d2 @hu) ?_|exact xU (ja3 @d1 @d2 @hu))
  ·have d2:decide (8<size)=false:=decide_eq_false c2
   have hu:beR n size = .sl false none ((leB n size.toNat).reverse.map u8):=if_neg zO
   obtain ⟨m,rfl⟩:∃ m:Nat,size=m:=⟨size.toNat,by omega⟩
   repeat (first|refine xR (ja2 @d1 @d2) ?_|exact xU (ja2 @d1 @d2))
   refine SWp.le (Zal (N:=27) (gc:=1) (l:=[(0,.sc (.int .u64 n)),(1,int m),(5,.sc (.slice none 0 0)),(6,int 0)]) (h:=[]) rfl (Nat.zero_le _) vT vT) ?_
   refine SWp.adopt 5 none vT ?_
   refine SWp.swap 5 21 (vU (ja2 @Zd3.eq_1 @Zd3.eq_2)) (vU (ja2 @Zd3.eq_1 @Zd3.eq_2)) ?_
   refine SWp.loop (α:=Nat × Nat × Nat × Nat) (fun x=>mk 27 x.2.2.1 [(0,.sc (.int .u64 x.2.2.2)),(1,int m),(5,.own 21 x.2.1 none 0 x.1),(6,int x.1)] [(21,x.2.1,.row (nl0 x.1) ((leB n x.1).reverse.map u8))])
    (fun x=>x.1≤m∧1≤x.2.1∧x.2.2.2=n / 2^(8*x.1)∧x.2.2.2<18446744073709551616) (fun x=>m-x.1) (0,1,2,n) ⟨Nat.zero_le _,Nat.le_refl _,by simp,hn⟩ (Zal rfl ?_ ?_ ?_) ?_
   ·exact Nat.le_refl _
   iterate 2 (case _=>(first|exact vU BJ2|refine vR BJ2 ?_))
   ·rintro ⟨k,g,c,v⟩ ⟨hk,hg,hv,hle⟩ -
    simp only at hk hg hv hle
    refine SWp.swap 21 2021 (by (first|exact vU (ja2 @Zd3.eq_1 @Zd3.eq_2)|refine vR (ja2 @Zd3.eq_1 @Zd3.eq_2) ?_);exact hg) (vU (ja2 @Zd3.eq_1 @Zd3.eq_2)) ?_
    refine SWp.le (Zal (N:=27) (gc:=c) (l:=[(0,.sc (.int .u64 v)),(1,int m),(5,.own 2021 g none 0 k),(6,int k)]) (h:=[(2021,g,.row (nl0 k) ((leB n k).reverse.map u8))]) rfl (Nat.le_refl _) (vU (ja2 @sw.eq_1 @Zli)) (vU (ja3 @sw.eq_1 @Zli @swH.eq_1))) ?_
    have hlk:(leB n k).reverse.length=k:=by simp [leB]
    have hh:(leB n (k+1)).reverse=UInt8.ofNat v::(leB n k).reverse:=by rw [hv];exact Zzf n k
    repeat (first|refine xS ?_|exact xT)
    refine SWp.cond rfl (fun h=>?_) (fun h=>?_)
    ·simp only [decide_eq_true_eq] at h
     have hk8:k<m:=zO
     repeat (first|refine xR (ja2 @hlk @Zbd) ?_|exact xU (ja2 @hlk @Zbd))
     refine At.of (k+1,c+1,c+2,v / 256) ⟨by simp only;omega,by simp only;omega,by simp only;rw [hv,Nat.div_div_eq_div_mul,show 8*(k+1)=8*k+8 by omega,Nat.pow_add],by simp only;omega⟩ (by simp only;omega) rfl rfl (Nat.le_refl _) ?_ ?_
     ·(first|exact vT|refine vS ?_)
      omega
     ·(first|exact vU (ja3 @hh @Zaw @UInt8.toNat_ofNat')|refine vR (ja3 @hh @Zaw @UInt8.toNat_ofNat') ?_)
    ·simp only [decide_eq_false_iff_not] at h
     obtain rfl:k=m:=zO
     repeat (first|refine xR (ja4 @hlk @hu @Zci @List.take_of_length_le.{0}) ?_|exact xU (ja4 @hlk @hu @Zci @List.take_of_length_le.{0}))
theorem Zlq [Tabs Tryz.prog] (nl:Bool) (l:List UInt8) (hl:l.length≤1000000):Con Tryz.prog Zby [.sl nl none (l.map u8)] (.sl (nl0 l.length) none (l.reverse.map u8)):=by
 refine Con.of' mix Tryz.func111 rfl Tryz.ntmps111 ZeB ZeC zB (by simp only [AV.free,AV.free.freeL,Zag,Bool.and_self]) (by simp only [AV.free,Zag]) ?_
 unfold Zct
 repeat (first|refine xS ?_|exact xT)
 refine SWp.adopt 3 none vT ?_
 refine SWp.loop (α:=Nat × Nat × Nat) (fun x=>mk 20 x.2.2 [(0,.sl nl none (l.map u8)),(3,.own 3 x.2.1 none 0 x.1),(4,int ((l.length:Int)-1-x.1))] [(3,x.2.1,.row (nl0 x.1) ((l.reverse.take x.1).map u8))])
  (fun x=>x.1≤l.length) (fun x=>l.length-x.1) (0,0,1) (Nat.zero_le _) (Zal rfl ?_ ?_ ?_) ?_
 ·exact Nat.le_refl _
 iterate 2 (case _=>(first|exact vU @Zay|refine vR @Zay ?_))
 ·rintro ⟨k,g,c⟩ hk -
  simp only at hk
  have hlk:(l.reverse.take k).length=k:=by simp;omega
  have hrl:l.reverse.length=l.length:=List.length_reverse
  repeat (first|refine xS ?_|exact xT)
  refine SWp.cond rfl (fun h=>?_) (fun h=>?_)
  ·simp only [decide_eq_true_eq] at h
   have hk8:k<l.length:=zO
   have hj:(l.length:Int)-1-(k:Int)=((l.length-1-k:Nat):Int):=zO
   have hs:=Zkp l.reverse k zO
   have hg:l.reverse.getD k 0=l.getD (l.length-1-k) 0:=by
    simp only [List.getD]
    rw [List.getElem?_reverse hk8]
   repeat (first|refine xR (ja2 @hlk @hj) ?_|exact xU (ja2 @hlk @hj))
   refine At.of (k+1,c,c+1) (by simp only;omega) (by simp only;omega) rfl rfl (Nat.le_refl _) ?_ ?_
   ·(first|exact vT|refine vS ?_)
    omega
   ·(first|exact vU (ja3 @hs @hg @Zaw)|refine vR (ja3 @hs @hg @Zaw) ?_)
  ·simp only [decide_eq_false_iff_not] at h
   obtain rfl:k=l.length:=zO
   repeat (first|refine xR (ja3 @hlk @hrl @List.take_of_length_le.{0}) ?_|exact xU (ja3 @hlk @hrl @List.take_of_length_le.{0}))
theorem Zzg [Tabs Tryz.prog] (n:Nat) (hn:n<4294967296):Con Tryz.prog ZcD [.sc (.int .u64 (n:Int)),int 4] (.sl false none ((leB n 4).map u8)):=by
 refine Con.of' mix Tryz.func66 rfl Tryz.ntmps66 Zg6 Zg7 zB rfl (by simp only [AV.free,Zag]) ?_
 unfold Zek
 have p1:=ZsM n zO 4 zO zO
 rw [show beR n 4 = .sl false none ((leB n 4).reverse.map u8) from rfl] at p1
 have p2:=Zlq false (leB n 4).reverse (by rw [List.length_reverse,ZaQ];omega)
 rw [List.reverse_reverse,List.length_reverse,ZaQ] at p2
 repeat (first|refine xS ?_|exact xT)
 refine Zaq _ (.inl ⟨rfl,p1⟩) ?_
 repeat (first|refine xS ?_|exact xT)
 refine Zaq _ (.inl ⟨by simp only [AV.free,AV.free.freeL,Zag,Bool.and_self],p2⟩) ?_
 repeat (first|refine xR @Zaw ?_|exact xU @Zaw)
theorem Zqe [Tabs Tryz.prog] (nl:Bool) (l:List UInt8) (hl:l.length=4):HCon Tryz.prog Zby [.sl nl none (l.map u8)] [] (.own 3 5 none 0 4) [(3,5,.row false (l.reverse.map u8))] 6:=by
 refine HCon.of' mix Tryz.func111 rfl Tryz.ntmps111 ZeB ZeC zB (by simp only [AV.gl,AV.gl.glL,and_true];exact Zan _ _ Zag) zB ?_
 unfold Zct
 repeat (first|refine xS ?_|exact xT)
 refine SWp.adopt 3 none vT ?_
 refine SWp.loop (α:=Nat) (fun k=>mk 20 (k+2) [(0,.sl nl none (l.map u8)),(3,.own 3 (k+1) none 0 k),(4,int ((l.length:Int)-1-k))] [(3,k+1,.row (nl0 k) ((l.reverse.take k).map u8))])
  (fun k=>k≤l.length) (fun k=>l.length-k) 0 (Nat.zero_le _) (Zal rfl ?_ ?_ ?_) ?_
 ·exact Nat.le_refl _
 iterate 2 (case _=>(first|exact vU @Zay|refine vR @Zay ?_))
 ·rintro k hk -
  have hlk:(l.reverse.take k).length=k:=by simp;omega
  have hrl:l.reverse.length=l.length:=List.length_reverse
  repeat (first|refine xS ?_|exact xT)
  refine SWp.cond rfl (fun h=>?_) (fun h=>?_)
  ·simp only [decide_eq_true_eq] at h
   have hk8:k<l.length:=zO
   have hj:(l.length:Int)-1-(k:Int)=((l.length-1-k:Nat):Int):=zO
   have hs:=Zkp l.reverse k zO
   have hg:l.reverse.getD k 0=l.getD (l.length-1-k) 0:=by
    simp only [List.getD]
    rw [List.getElem?_reverse hk8]
   repeat (first|refine xR (ja2 @hlk @hj) ?_|exact xU (ja2 @hlk @hj))
   refine At.of (k+1) zO zO rfl rfl (Nat.le_refl _) ?_ ?_
   ·(first|exact vT|refine vS ?_)
    omega
   ·(first|exact vU (ja3 @hs @hg @Zaw)|refine vR (ja3 @hs @hg @Zaw) ?_)
  ·simp only [decide_eq_false_iff_not] at h
   obtain rfl:k=4:=zO
   have e4:l.reverse.take 4=l.reverse:=List.take_of_length_le zO
   repeat (first|refine xR (ja4 @e4 @hrl @hl @Zaw) ?_|exact xU (ja4 @e4 @hrl @hl @Zaw))
theorem Zzh [Tabs Tryz.prog] (n:Nat) (hn:n<4294967296):HCon Tryz.prog ZcD [.sc (.int .u64 (n:Int)),int 4] [] (.own 100003 6 none 0 4) [(100003,6,.row false ((leB n 4).map u8))] 7:=by
 refine HCon.of' mix Tryz.func66 rfl Tryz.ntmps66 Zg6 Zg7 zB (by simp [AV.gl,AV.gl.glL,int]) zB ?_
 unfold Zek
 have p1:=ZsM n zO 4 zO zO
 rw [show beR n 4 = .sl false none ((leB n 4).reverse.map u8) from rfl] at p1
 have p2:=Zqe false (leB n 4).reverse (by rw [List.length_reverse,ZaQ])
 rw [List.reverse_reverse] at p2
 repeat (first|refine xS ?_|exact xT)
 refine Zaq _ (.inl ⟨rfl,p1⟩) ?_
 repeat (first|refine xS ?_|exact xT)
 refine Zab [] 100000 p2 zB zB ?_ ?_ ?_
 iterate 2 (case _=>(first|exact vT|refine vS ?_))
 repeat (first|refine xS ?_|exact xT)
def Zlr (b:List UInt8) (at_ size:Int):AV:=if stB b.length at_ size=true then .tup [.sc (.int .u64 (beN ((b.drop at_.toNat).take size.toNat))),boo true] else .tup [.sc (.int .u64 0),boo false]
theorem ZrX [Tabs Tryz.prog] (nl:Bool) (b:List UInt8) (hb:b.length≤1000000) (at_ size:Int) (h0:-9223372036854775808≤at_) (h0':at_≤9223372036854775807):Con Tryz.prog ZeT [.sl nl none (b.map u8),int at_,int size] (Zlr b at_ size):=by
 refine Con.of' mix Tryz.func110 rfl Tryz.ntmps110 ZiW ZiX zB (by simp only [AV.free,AV.free.freeL,Zag,int,Bool.and_self]) (by unfold Zlr;split <;> rfl) ?_
 unfold Ze4
 rcases Zp2 b.length at_ size with ⟨hst,hc⟩ | ⟨hst,c1,c2,c3,c4,c5⟩
 ·have hr:Zlr b at_ size = .tup [.sc (.int .u64 0),boo false]:=by unfold Zlr;rw [hst];rfl
  by_cases c1:size<1
  ·have d1:=decide_eq_true c1
   repeat (first|refine xR (ja2 @d1 @hr) ?_|exact xU (ja2 @d1 @hr))
  have d1:=decide_eq_false c1
  by_cases c2:8<size
  ·have d2:=decide_eq_true c2
   repeat (first|refine xR (ja3 @d1 @d2 @hr) ?_|exact xU (ja3 @d1 @d2 @hr))
  have d2:=decide_eq_false c2
  by_cases c3:at_<0
  ·have d3:=decide_eq_true c3
   repeat (first|refine xR (ja4 @d1 @d2 @d3 @hr) ?_|exact xU (ja4 @d1 @d2 @d3 @hr))
  have d3:=decide_eq_false c3
  by_cases c4:(b.length:Int)<at_
  ·have d4:=decide_eq_true c4
   repeat (first|refine xR (ja5 @d1 @d2 @d3 @d4 @hr) ?_|exact xU (ja5 @d1 @d2 @d3 @d4 @hr))
  have d4:=decide_eq_false c4
  have c5:(b.length:Int)-at_<size:=zO
  have d5:=decide_eq_true c5
  repeat (first|refine xR (ja6 @d1 @d2 @d3 @d4 @d5 @hr) ?_|exact xU (ja6 @d1 @d2 @d3 @d4 @d5 @hr))
 ·have d1:=decide_eq_false c1
  have d2:=decide_eq_false c2
  have d3:=decide_eq_false c3
  have d4:=decide_eq_false c4
  have d5:=decide_eq_false c5
  obtain ⟨a,rfl⟩:∃ a:Nat,at_=a:=⟨at_.toNat,by omega⟩
  obtain ⟨m,rfl⟩:∃ m:Nat,size=m:=⟨size.toNat,by omega⟩
  obtain ⟨w,hw⟩:∃ w,w=(b.drop a).take m:=⟨_,rfl⟩
  have hwl:w.length=m:=by rw [hw];simp;omega
  have hr:Zlr b a m = .tup [.sc (.int .u64 (beN w)),boo true]:=by unfold Zlr;rw [hst,hw];rfl
  repeat (first|refine xR (ja5 @d1 @d2 @d3 @d4 @d5) ?_|exact xU (ja5 @d1 @d2 @d3 @d4 @d5))
  refine SWp.loop (α:=Nat) (fun k=>mk 50 0 [(0,.sl nl none (b.map u8)),(1,int a),(2,int m),(8,.sc (.int .u64 (beN (w.take k)))),(9,int k)] [])
   (fun k=>k≤m) (fun k=>m-k) 0 (Nat.zero_le _) (Zal rfl ?_ ?_ ?_) ?_
  ·exact Nat.le_refl _
  ·(first|exact vT|refine vS ?_)
   rfl
  ·(first|exact vT|refine vS ?_)
  ·rintro k hk -
   repeat (first|refine xS ?_|exact xT)
   refine SWp.cond rfl (fun h=>?_) (fun h=>?_)
   ·simp only [decide_eq_true_eq] at h
    have hkm:k<m:=zO
    have hg:b.getD (a+k) 0=w.getD k 0:=by rw [hw];exact ZsE b a m k hkm zO
    have hlt:=ZsD (w.take k)
    have hp:=Zw0 k zO
    rw [List.length_take,hwl,Nat.min_eq_left zO] at hlt
    have hc:(w.getD k 0).toNat<256:=(w.getD k 0).toNat_lt
    have hs:beN (w.take (k+1))=beN (w.take k)*256+(w.getD k 0).toNat:=by rw [Zkp w k zO,Zy3]
    repeat (first|refine xR (ja2 @hg @Zbd) ?_|exact xU (ja2 @hg @Zbd))
    refine At.of (k+1) zO zO rfl rfl (Nat.le_refl _) ?_ ?_
    ·(first|exact vU @hs|refine vR @hs ?_)
     omega
    ·(first|exact vT|refine vS ?_)
   ·simp only [decide_eq_false_iff_not] at h
    obtain rfl:k=m:=zO
    have hwt:w.take k=w:=List.take_of_length_le zO
    repeat (first|refine xR (ja2 @hwt @hr) ?_|exact xU (ja2 @hwt @hr))
theorem Zf4 [Tabs Tryz.prog] (nl:Bool) (b:List UInt8) (hb:b.length≤1000000) (at_ size:Int) (h0:-9223372036854775808≤at_) (h0':at_≤9223372036854775807):Con Tryz.prog ZbD [.sl nl none (b.map u8),int at_,int size] (Zbr b at_ size):=by
 refine Con.of' mix Tryz.func63 rfl Tryz.ntmps63 ZiY ZiZ zB (by simp only [AV.free,AV.free.freeL,Zag,int,Bool.and_self]) (by unfold Zbr;split <;> rfl) ?_
 unfold Ze5
 rcases Zp2 b.length at_ size with ⟨hst,hc⟩ | ⟨hst,c1,c2,c3,c4,c5⟩
 ·have hr:Zbr b at_ size = .tup [.sc (.int .u64 0),boo false]:=by unfold Zbr;rw [hst];rfl
  by_cases c1:size<1
  ·have d1:=decide_eq_true c1
   repeat (first|refine xR (ja2 @d1 @hr) ?_|exact xU (ja2 @d1 @hr))
  have d1:=decide_eq_false c1
  by_cases c2:8<size
  ·have d2:=decide_eq_true c2
   repeat (first|refine xR (ja3 @d1 @d2 @hr) ?_|exact xU (ja3 @d1 @d2 @hr))
  have d2:=decide_eq_false c2
  by_cases c3:at_<0
  ·have d3:=decide_eq_true c3
   repeat (first|refine xR (ja4 @d1 @d2 @d3 @hr) ?_|exact xU (ja4 @d1 @d2 @d3 @hr))
  have d3:=decide_eq_false c3
  by_cases c4:(b.length:Int)<at_
  ·have d4:=decide_eq_true c4
   repeat (first|refine xR (ja5 @d1 @d2 @d3 @d4 @hr) ?_|exact xU (ja5 @d1 @d2 @d3 @d4 @hr))
  have d4:=decide_eq_false c4
  have c5:(b.length:Int)-at_<size:=zO
  have d5:=decide_eq_true c5
  repeat (first|refine xR (ja6 @d1 @d2 @d3 @d4 @d5 @hr) ?_|exact xU (ja6 @d1 @d2 @d3 @d4 @d5 @hr))
 ·have d1:=decide_eq_false c1
  have d2:=decide_eq_false c2
  have d3:=decide_eq_false c3
  have d4:=decide_eq_false c4
  have d5:=decide_eq_false c5
  obtain ⟨a,rfl⟩:∃ a:Nat,at_=a:=⟨at_.toNat,by omega⟩
  obtain ⟨m,rfl⟩:∃ m:Nat,size=m:=⟨size.toNat,by omega⟩
  obtain ⟨w,hw⟩:∃ w,w=(b.drop a).take m:=⟨_,rfl⟩
  have hwl:w.length=m:=by rw [hw];simp;omega
  have hr:Zbr b a m = .tup [.sc (.int .u64 (leN w)),boo true]:=by unfold Zbr;rw [hst,hw];rfl
  have hwd:(b.take (a+m)).drop a=w:=by rw [hw,List.drop_take];congr 1;omega
  have hrl:w.reverse.length=m:=by rw [List.length_reverse,hwl]
  have hg:=ZrX (nl0 w.length) w.reverse zO 0 m (by decide) (by decide)
  have hst2:stB w.reverse.length 0 m=true:=decide_eq_true (by rw [hrl];omega)
  have hgr:Zlr w.reverse 0 m = .tup [.sc (.int .u64 (leN w)),boo true]:=by
   unfold Zlr leN
   rw [hst2,if_pos rfl]
   simp only [Int.toNat_zero,List.drop_zero,Int.toNat_natCast]
   rw [List.take_of_length_le zO]
  rw [hgr] at hg
  repeat (first|refine xR (ja6 @d1 @d2 @d3 @d4 @d5 @hwd) ?_|exact xU (ja6 @d1 @d2 @d3 @d4 @d5 @hwd))
  refine Zaq _ (.inl ⟨by simp only [AV.free,AV.free.freeL,Zag,Bool.and_self],Zlq nl w zO⟩) ?_
  repeat (first|refine xS ?_|exact xT)
  refine Zaq _ (.inl ⟨by simp only [AV.free,AV.free.freeL,Zag,Bool.and_self],hg⟩) ?_
  repeat (first|refine xR @hr ?_|exact xU @hr)
theorem ZsN:AV.sc (.int .u32 65536)=w32 65536:=rfl
theorem ZlY {c:UInt32}:ZhX .rem (w32 c) (w32 65536)=(True,w32 (c % 65536)):=Zre (by decide)
theorem ZzC {w:List UInt8} (hw:w.length=2) {c:UInt32}:decide (c % 65536=UInt32.ofNat (leN w))=decide (w=leB c.toNat 2):=by
 match w,hw with
 | [x,y],_ =>
  have hx:=x.toNat_lt
  have hy:=y.toNat_lt
  have e:leN [x,y]=x.toNat+256*y.toNat:=by simp [leN,beN];omega
  have e2:leB c.toNat 2=[UInt8.ofNat c.toNat,UInt8.ofNat (c.toNat / 256)]:=by simp [leB,List.range_succ]
  have e3:(c % 65536).toNat=c.toNat % 65536:=by rw [UInt32.toNat_mod];rfl
  refine decide_eq_decide.2 ?_
  have e5:(UInt32.ofNat (x.toNat+256*y.toNat)).toNat=x.toNat+256*y.toNat:=by rw [UInt32.toNat_ofNat',Nat.mod_eq_of_lt zO]
  rw [e2,e,←UInt32.toNat_inj,e3,e5]
  simp only [List.cons.injEq,and_true,←UInt8.toNat_inj,UInt8.toNat_ofNat']
  omega
theorem Zks {b:List UInt8} {i:Nat} (h:i+2≤b.length):Zbr b (i:Int) 2 = .tup [.sc (.int .u64 (two b i:Int)),boo true]:=by
 unfold Zbr
 rw [if_pos (show stB b.length (i:Int) 2=true from decide_eq_true zO)]
 rfl
theorem ZsO {b:List UInt8} {i:Nat} (h:b.length<i+2):Zbr b (i:Int) 2 = .tup [.sc (.int .u64 0),boo false]:=by
 unfold Zbr
 rw [if_neg]
 simp only [stB,decide_eq_true_eq]
 omega
theorem ZC2 {b:List UInt8} {i:Nat} (h:Lib.indexByte (b.drop i) 0<0):zr b i=-1:=if_pos h
theorem ZDn {b:List UInt8} {i:Nat} (h:¬ Lib.indexByte (b.drop i) 0<0):zr b i=((i+(Lib.indexByte (b.drop i) 0).toNat:Nat):Int):=by
 rw [zr,if_neg h];omega
def ZBx (r:MR) (i:Nat):AV:=if r.1=0 then .agg [str r.2.1,int (r.2.2.1:Int),.sl (nl0 r.2.2.2.1.length) none (r.2.2.2.1.map u8),int ((i+r.2.2.2.2:Nat):Int),int 0] else .agg [str [],int 0,.sc (.slice none 0 0),int 0,int (r.1:Int)]
theorem Zds {e i:Nat} (h:e≠0):ZBx (noR e) i = .agg [str [],int 0,.sc (.slice none 0 0),int 0,int (e:Int)]:=if_neg h
theorem Zzi {B:List UInt8} {f i:Nat} (h:(tS1 B f i).2≠0):(ZhW B f i).2.2=(tS1 B f i).2:=by simp only [ZhW,tS2,if_neg h,tS3,tS4]
theorem Zzj {B:List UInt8} {f i:Nat} (h:(tS2 B f (tS1 B f i)).2.2≠0):(ZhW B f i).2.2=(tS2 B f (tS1 B f i)).2.2:=by simp only [ZhW,tS3,tS4,if_neg h]
theorem Zzk {B:List UInt8} {f i:Nat} (h:(tS3 B f (tS2 B f (tS1 B f i)).2).2≠0):(ZhW B f i).2.2=(tS3 B f (tS2 B f (tS1 B f i)).2).2:=by simp only [ZhW,tS4,if_neg h]
theorem ZoS {B:List UInt8} {room F:Nat} {t:List UInt8 × Nat × Nat} {mt e:Nat} (h:t.2.2=e) (he:e≠0):ZBw B room F t mt=noR e:=by rw [ZBw,h,if_pos he]
theorem Zxk {r:MR} {i:Nat}:(ZBx r i).free=true:=by
 unfold ZBx
 split
 ·simp only [AV.free,AV.free.freeL,Zag,str,int,Bool.and_self]
 ·rfl
set_option maxHeartbeats 2000000 in
theorem Zqf [Tabs Tryz.prog] (nl:Bool) (b:List UInt8) (hl:b.length≤4096) (i:Nat) (hi:i≤b.length) (room:Nat) (hr:room≤1000000) (F:Nat) (hF:8*b.length<F) (r:MR) (hm:r=Zkw (b.drop i) room F) :
  Con Tryz.prog Zes [.sl nl none (b.map u8),int (i:Int),int (room:Int)] (ZBx r i):=by
 refine Con.of' mix Tryz.func32 rfl Tryz.ntmps32 Zig Zih zB (by simp only [AV.free,AV.free.freeL,Zag,int,Bool.and_self]) Zxk ?_
 unfold ZeF
 by_cases h10:b.length<i+10
 ·have dl:decide ((b.length:Int)-(i:Int)<10)=true:=decide_eq_true zO
  rw [ZnS (by rw [List.length_drop];omega)] at hm
  subst hm
  rw [Zds (by decide)]
  repeat (first|refine xR (ja2 @dl @List.length_map.{0,0}) ?_|exact xU (ja2 @dl @List.length_map.{0,0}))
 have dl:decide ((b.length:Int)-(i:Int)<10)=false:=decide_eq_false zO
 obtain ⟨x0,x1,x2,x3,W,hB⟩:∃ x0 x1 x2 x3 W,b.drop i=x0::x1::x2::x3::W:=by
  obtain ⟨B,hBB⟩:∃ B,B=b.drop i:=⟨_,rfl⟩
  have h:10≤B.length:=by rw [hBB,List.length_drop];omega
  rw [←hBB]
  match B,h with
  | x0::x1::x2::x3::W,_=>exact ⟨x0,x1,x2,x3,W,rfl⟩
 have hWl:W.length+4=b.length-i:=by
  have:=congrArg List.length hB
  rw [List.length_drop] at this
  simp only [List.length_cons] at this
  omega
 have hg:∀ k,b.getD (i+k) 0=(b.drop i).getD k 0:=fun k=>by simp [List.getD,List.getElem?_drop]
 have g0:b.getD i 0=x0:=by have:=hg 0;rw [hB] at this;exact this
 have g1:b.getD (i+1) 0=x1:=by rw [hg,hB];rfl
 have g2:b.getD (i+2) 0=x2:=by rw [hg,hB];rfl
 have g3:b.getD (i+3) 0=x3:=by rw [hg,hB];rfl
 have hW4:(b.drop (i+4)).take 4=W.take 4:=by rw [←List.drop_drop,hB];rfl
 rw [hB,Zkw,if_neg zO] at hm
 have hx0:=x0.toNat_lt
 have hx1:=x1.toNat_lt
 have hx2:=x2.toNat_lt
 have hx3:=x3.toNat_lt
 clear hg
 by_cases c0:x0.toNat=31
 rotate_left
 ·have d0:decide ((x0.toNat:Int)=31)=false:=decide_eq_false zO
  rw [show hdE x0 x1 x2 x3=3 by simp [hdE,c0],if_pos (by decide)] at hm
  subst hm
  rw [Zds (by decide)]
  repeat (first|refine xR (ja4 @dl @d0 @g0 @List.length_map.{0,0}) ?_|exact xU (ja4 @dl @d0 @g0 @List.length_map.{0,0}))
 have d0:decide ((x0.toNat:Int)=31)=true:=decide_eq_true zO
 by_cases c1:x1.toNat=139
 rotate_left
 ·have d1:decide ((x1.toNat:Int)=139)=false:=decide_eq_false zO
  rw [show hdE x0 x1 x2 x3=3 by simp [hdE,c0,c1],if_pos (by decide)] at hm
  subst hm
  rw [Zds (by decide)]
  repeat (first|refine xR (ja6 @dl @d0 @d1 @g0 @g1 @List.length_map.{0,0}) ?_|exact xU (ja6 @dl @d0 @d1 @g0 @g1 @List.length_map.{0,0}))
 have d1:decide ((x1.toNat:Int)=139)=true:=decide_eq_true zO
 by_cases c2:x2.toNat=8
 rotate_left
 ·have d2:decide ((x2.toNat:Int)=8)=false:=decide_eq_false zO
  rw [show hdE x0 x1 x2 x3=14 by simp [hdE,c0,c1,c2],if_pos (by decide)] at hm
  subst hm
  rw [Zds (by decide)]
  repeat (first|refine xR (ja8 @dl @d0 @d1 @d2 @g0 @g1 @g2 @List.length_map.{0,0}) ?_|exact xU (ja8 @dl @d0 @d1 @d2 @g0 @g1 @g2 @List.length_map.{0,0}))
 have d2:decide ((x2.toNat:Int)=8)=true:=decide_eq_true zO
 by_cases c3:x3.toNat<32
 rotate_left
 ·have d3:decide (31<(x3.toNat:Int))=true:=decide_eq_true zO
  rw [show hdE x0 x1 x2 x3=3 by simp [hdE,c0,c1,c2,c3],if_pos (by decide)] at hm
  subst hm
  rw [Zds (by decide)]
  repeat (first|refine xR (ja8 @dl @d0 @d1 @d2 @d3 @g0 @g1 (ja3 @g2 @g3 @List.length_map.{0,0})) ?_|exact xU (ja8 @dl @d0 @d1 @d2 @d3 @g0 @g1 (ja3 @g2 @g3 @List.length_map.{0,0})))
 have d3:decide (31<(x3.toNat:Int))=false:=decide_eq_false zO
 rw [show hdE x0 x1 x2 x3=0 by simp [hdE,c0,c1,c2,c3],if_neg (by decide)] at hm
 have hlt:leN (W.take 4)<4294967296:=by
  have:=ZsD (W.take 4).reverse
  rw [List.length_reverse,List.length_take,Nat.min_eq_left zO] at this
  exact this
 have p1:=Zf4 nl b zO ((i:Int)+4) 4 zO zO
 have hr1:Zbr b ((i:Int)+4) 4 = .tup [.sc (.int .u64 (leN (W.take 4):Int)),boo true]:=by
  unfold Zbr
  rw [if_pos (show stB b.length ((i:Int)+4) 4=true from decide_eq_true zO),show ((i:Int)+4).toNat=i+4 by omega,show ((4:Int).toNat)=4 from rfl,hW4]
 rw [hr1] at p1
 obtain ⟨t,ht⟩:∃ t,t=leN (W.take 4):=⟨_,rfl⟩
 rw [←ht] at p1 hlt hm
 have hwr:IntKind.i64.wrap (t:Int)=(t:Int):=Zch zO zO
 have fb:AV.free.freeL [.sl nl none (b.map u8)]=true:=by simp only [AV.free,AV.free.freeL,Zag,Bool.and_self]
 clear hr1 hW4 ht
 rw [←hB] at hm
 obtain ⟨f,hf⟩:∃ f,f=x3.toNat:=⟨_,rfl⟩
 repeat (first|refine xR (ja8 @dl @d0 @d1 @d2 @d3 @g0 @g1 (ja3 @g2 @g3 @List.length_map.{0,0})) ?_|exact xU (ja8 @dl @d0 @d1 @d2 @d3 @g0 @g1 (ja3 @g2 @g3 @List.length_map.{0,0})))
 refine Zaq _ (.inl ⟨by simp only [AV.free,AV.free.freeL,Zag,int,Bool.and_self],p1⟩) ?_
 repeat (first|refine xR (ja3 @hwr @List.length_map.{0,0} hf.symm) ?_|exact xU (ja3 @hwr @List.length_map.{0,0} hf.symm))
 obtain ⟨B,hBd⟩:∃ B,B=b.drop i:=⟨_,rfl⟩
 rw [←hBd,←hf] at hm
 have hBl:B.length=b.length-i:=by rw [hBd,List.length_drop]
 have hdd:∀ j,B.drop j=b.drop (i+j):=fun j=>by rw [hBd,List.drop_drop]
 have htw:∀ j,two B j=two b (i+j):=fun j=>by unfold two;rw [hdd]
 have no1:=Zzi (B:=B) (f:=f) (i:=10)
 have no2:=Zzj (B:=B) (f:=f) (i:=10)
 have no3:=Zzk (B:=B) (f:=f) (i:=10)
 have hq1:=Zxe (b:=B) (f:=f) (i:=10) zO
 have hq2:=Zxf (b:=B) (f:=f) (p:=tS1 B f 10) hq1
 have hq3:=Zxg (b:=B) (f:=f) (p:=(tS2 B f (tS1 B f 10)).2) hq2
 have hq4:=ZsL (b:=B) (f:=f) (i:=10) zO
 have htR:ZhW B f 10=((tS2 B f (tS1 B f 10)).1,tS4 B f (tS3 B f (tS2 B f (tS1 B f 10)).2)):=rfl
 obtain ⟨TR,hTR⟩:∃ TR,TR=ZhW B f 10:=⟨_,rfl⟩
 rw [←hTR] at hm no1 no2 no3 hq4 htR
 clear hTR
 obtain ⟨p1,hp1⟩:∃ p,p=tS1 B f 10:=⟨_,rfl⟩
 rw [←hp1] at no1 no2 no3 hq1 hq2 hq3 htR
 obtain ⟨p2,hp2⟩:∃ p,p=tS2 B f p1:=⟨_,rfl⟩
 rw [←hp2] at no2 no3 hq2 hq3 htR
 obtain ⟨p3,hp3⟩:∃ p,p=tS3 B f p2.2:=⟨_,rfl⟩
 rw [←hp3] at no3 hq3 htR
 have hf2:f<256:=by rw [hf];exact x3.toNat_lt
 clear hf g0 g1 g2 g3 d0 d1 d2 d3 c0 c1 c2 c3 hx0 hx1 hx2 hx3 hB hWl
 by_cases e1:p1.2=0
 rotate_left
 ·have hR:=hm.trans (ZoS (no1 e1) e1)
  rw [tS1] at hp1
  by_cases c4:f / 4 % 2=0
  ·rw [if_pos c4] at hp1;subst hp1;exact absurd rfl e1
  rw [if_neg c4] at hp1
  refine SWp.cond rfl (fun _=>?_) (fun h=>absurd (of_decide_eq_false h) zO)
  by_cases c5:B.length<10+2
  ·rw [if_pos c5] at hp1
   subst hp1 hR
   have q:=Zf4 nl b zO ((i:Int)+10) 2 zO zO
   rw [show Zbr b ((i:Int)+10) 2=Zbr b ((i+10:Nat):Int) 2 from rfl,ZsO zO] at q
   rw [Zds (by decide)]
   repeat (first|refine xS ?_|exact xT)
   refine Zaq _ (.inl ⟨by simp only [AV.free,AV.free.freeL,Zag,int,Bool.and_self],q⟩) ?_
   repeat (first|refine xS ?_|exact xT)
  ·rw [if_neg c5] at hp1
   by_cases c6:B.length<10+2+two B 10
   ·rw [if_pos c6] at hp1
    subst hp1 hR
    have q:=Zf4 nl b zO ((i:Int)+10) 2 zO zO
    rw [show Zbr b ((i:Int)+10) 2=Zbr b ((i+10:Nat):Int) 2 from rfl,Zks zO] at q
    rw [htw] at c6
    have h2:=(ZnQ (b:=b) (i:=i+10) zO).1
    obtain ⟨n,hn⟩:∃ n,n=two b (i+10):=⟨_,rfl⟩
    rw [←hn] at q c6 h2
    have hw2:IntKind.i64.wrap (n:Int)=(n:Int):=Zch zO zO
    have d6:decide ((b.length:Int)-((i:Int)+10)-2<(n:Int))=true:=decide_eq_true zO
    rw [Zds (by decide)]
    repeat (first|refine xS ?_|exact xT)
    refine Zaq _ (.inl ⟨by simp only [AV.free,AV.free.freeL,Zag,int,Bool.and_self],q⟩) ?_
    repeat (first|refine xR (ja3 @hw2 @d6 @List.length_map.{0,0}) ?_|exact xU (ja3 @hw2 @d6 @List.length_map.{0,0}))
   ·rw [if_neg c6] at hp1;subst hp1;exact absurd rfl e1
 refine SWp.toT (F:=mk 206 2 [(0,.sl nl none (b.map u8)),(1,int (i:Int)),(2,int (room:Int)),(6,.op 6 0 0),(7,int (f:Int)),(8,.op 8 1 0),(11,int ((i+p1.1:Nat):Int))] [(6,0,.row false [str [],int 0,.sc (.slice none 0 0),int 0,int 0]),(8,1,.row false [str [],int (t:Int),.sc (.slice none 0 0)])]) ?_ ?_
 ·rw [tS1] at hp1
  refine SWp.cond rfl (fun h=>?_) (fun h=>?_)
  ·simp only [decide_eq_true_eq] at h
   rw [if_neg zO] at hp1
   by_cases c5:B.length<10+2
   ·rw [if_pos c5] at hp1;subst hp1;cases e1
   rw [if_neg c5] at hp1
   by_cases c6:B.length<10+2+two B 10
   ·rw [if_pos c6] at hp1;subst hp1;cases e1
   rw [if_neg c6] at hp1
   rw [htw] at c6 hp1
   have q:=Zf4 nl b zO ((i:Int)+10) 2 zO zO
   rw [show Zbr b ((i:Int)+10) 2=Zbr b ((i+10:Nat):Int) 2 from rfl,Zks zO] at q
   have h2:=(ZnQ (b:=b) (i:=i+10) zO).1
   obtain ⟨n,hn⟩:∃ n,n=two b (i+10):=⟨_,rfl⟩
   rw [←hn] at q c6 h2 hp1
   have hw2:IntKind.i64.wrap (n:Int)=(n:Int):=Zch zO zO
   have d6:decide ((b.length:Int)-((i:Int)+10)-2<(n:Int))=false:=decide_eq_false zO
   subst hp1
   repeat (first|refine xS ?_|exact xT)
   refine Zaq _ (.inl ⟨by simp only [AV.free,AV.free.freeL,Zag,int,Bool.and_self],q⟩) ?_
   repeat (first|refine xR (ja3 @hw2 @d6 @List.length_map.{0,0}) ?_|exact xU (ja3 @hw2 @d6 @List.length_map.{0,0}))
   refine Zal rfl ?_ ?_ ?_
   ·exact Nat.le_refl _
   ·(first|exact vT|refine vS ?_)
    omega
   ·(first|exact vT|refine vS ?_)
  ·simp only [decide_eq_false_iff_not] at h
   rw [if_pos zO] at hp1
   subst hp1
   refine SWp.skip (Zal rfl ?_ ?_ ?_)
   ·exact Nat.le_refl _
   iterate 2 (case _=>(first|exact vT|refine vS ?_))
 obtain ⟨i1,z1⟩:=p1
 simp only at e1
 subst e1
 simp only at hq1 hp2 ⊢
 obtain ⟨a1,ha1⟩:∃ a1,a1=i+i1:=⟨_,rfl⟩
 have hd1:B.drop i1=b.drop a1:=by rw [hdd,ha1]
 rw [←ha1]
 have qz:=ZnR nl b zO a1 zO
 have fz:AV.free.freeL [.sl nl none (b.map u8),int (a1:Int)]=true:=by simp only [AV.free,AV.free.freeL,Zag,int,Bool.and_self]
 rw [tS2,if_pos rfl] at hp2
 simp only [hd1] at hp2
 repeat (first|refine xS ?_|exact xT)
 by_cases e2:p2.2.2=0
 rotate_left
 ·have hR:=hm.trans (ZoS (no2 e2) e2)
  by_cases c8:f / 8 % 2=0
  ·rw [if_pos c8] at hp2;subst hp2;exact absurd rfl e2
  rw [if_neg c8] at hp2
  refine SWp.cond rfl (fun _=>?_) (fun h=>absurd (of_decide_eq_false h) zO)
  by_cases cx:Lib.indexByte (b.drop a1) 0<0
  ·rw [if_pos cx] at hp2
   rw [ZC2 cx] at qz
   subst hp2 hR
   rw [Zds zB]
   repeat (first|refine xS ?_|exact xT)
   refine Zaq _ (.inl ⟨fz,qz⟩) ?_
   repeat (first|refine xS ?_|exact xT)
  ·rw [if_neg cx] at hp2
   rw [ZDn cx] at qz
   have hk:=(ZhD cx).2
   rw [List.length_drop] at hk
   obtain ⟨k,hkk⟩:∃ k,k=(Lib.indexByte (b.drop a1) 0).toNat:=⟨_,rfl⟩
   rw [←hkk] at qz hp2 hk
   by_cases c9:200<k
   ·rw [if_pos c9] at hp2
    subst hp2 hR
    obtain ⟨z,hz⟩:∃ z,z=a1+k:=⟨_,rfl⟩
    rw [←hz] at qz
    have hnl:((b.take z).drop a1).length=k:=by rw [List.length_drop,List.length_take];omega
    obtain ⟨nm,hnm⟩:∃ nm,nm=(b.take z).drop a1:=⟨_,rfl⟩
    rw [←hnm] at hnl
    have d9:decide ((200:Int)<(k:Int))=true:=decide_eq_true zO
    rw [Zds zB]
    repeat (first|refine xS ?_|exact xT)
    refine Zaq _ (.inl ⟨fz,qz⟩) ?_
    repeat (first|refine xR (ja4 @List.length_map.{0,0} hnm.symm @hnl @d9) ?_|exact xU (ja4 @List.length_map.{0,0} hnm.symm @hnl @d9))
   ·rw [if_neg c9] at hp2;subst hp2;exact absurd rfl e2
 obtain ⟨a2,ha2⟩:∃ a2,a2=i+p2.2.1:=⟨_,rfl⟩
 refine SWp.toT (F:=mk 206 2 [(0,.sl nl none (b.map u8)),(1,int (i:Int)),(2,int (room:Int)),(6,.op 6 0 0),(7,int (f:Int)),(8,.op 8 1 0),(11,int (a2:Int))] [(6,0,.row false [str [],int 0,.sc (.slice none 0 0),int 0,int 0]),(8,1,.row false [str p2.1,int (t:Int),.sc (.slice none 0 0)])]) ?_ ?_
 ·refine SWp.cond rfl (fun h=>?_) (fun h=>?_)
  ·simp only [decide_eq_true_eq] at h
   rw [if_neg zO] at hp2
   by_cases cx:Lib.indexByte (b.drop a1) 0<0
   ·rw [if_pos cx] at hp2;subst hp2;cases e2
   rw [if_neg cx] at hp2
   rw [ZDn cx] at qz
   have hk:=(ZhD cx).2
   rw [List.length_drop] at hk
   obtain ⟨k,hkk⟩:∃ k,k=(Lib.indexByte (b.drop a1) 0).toNat:=⟨_,rfl⟩
   rw [←hkk] at qz hp2 hk
   by_cases c9:200<k
   ·rw [if_pos c9] at hp2;subst hp2;cases e2
   rw [if_neg c9] at hp2
   obtain ⟨z,hz⟩:∃ z,z=a1+k:=⟨_,rfl⟩
   rw [←hz] at qz
   have hnk:(b.take z).drop a1=(b.drop a1).take k:=by rw [List.drop_take,hz,Nat.add_sub_cancel_left]
   have hnl:((b.drop a1).take k).length=k:=by rw [List.length_take,List.length_drop];omega
   obtain ⟨nm,hnm⟩:∃ nm,nm=(b.drop a1).take k:=⟨_,rfl⟩
   rw [←hnm] at hnl hnk hp2
   have d9:decide ((200:Int)<(k:Int))=false:=decide_eq_false zO
   subst hp2
   simp only at ha2
   repeat (first|refine xS ?_|exact xT)
   refine Zaq _ (.inl ⟨fz,qz⟩) ?_
   repeat (first|refine xR (ja4 @List.length_map.{0,0} @hnk @hnl @d9) ?_|exact xU (ja4 @List.length_map.{0,0} @hnk @hnl @d9))
   refine Zal rfl ?_ ?_ ?_
   ·exact Nat.le_refl _
   ·(first|exact vT|refine vS ?_)
    omega
   ·(first|exact vT|refine vS ?_)
  ·simp only [decide_eq_false_iff_not] at h
   rw [if_pos zO] at hp2
   subst hp2
   simp only at ha2
   obtain rfl:a2=a1:=zO
   refine SWp.skip (Zal rfl ?_ ?_ ?_)
   ·exact Nat.le_refl _
   iterate 2 (case _=>(first|exact vT|refine vS ?_))
 obtain ⟨nm,i2,z2⟩:=p2
 simp only at e2
 subst e2
 simp only at hq2 hp3 htR ha2 ⊢
 have hd2:B.drop i2=b.drop a2:=by rw [hdd,ha2]
 have qz:=ZnR nl b zO a2 zO
 have fz:AV.free.freeL [.sl nl none (b.map u8),int (a2:Int)]=true:=by simp only [AV.free,AV.free.freeL,Zag,int,Bool.and_self]
 rw [tS3,if_pos rfl] at hp3
 simp only [hd2] at hp3
 repeat (first|refine xS ?_|exact xT)
 by_cases e3:p3.2=0
 rotate_left
 ·have hR:=hm.trans (ZoS (no3 e3) e3)
  by_cases c8:f / 16 % 2=0
  ·rw [if_pos c8] at hp3;subst hp3;exact absurd rfl e3
  rw [if_neg c8] at hp3
  refine SWp.cond rfl (fun _=>?_) (fun h=>absurd (of_decide_eq_false h) zO)
  by_cases cx:Lib.indexByte (b.drop a2) 0<0
  ·rw [if_pos cx] at hp3
   rw [ZC2 cx] at qz
   subst hp3 hR
   rw [Zds zB]
   repeat (first|refine xS ?_|exact xT)
   refine Zaq _ (.inl ⟨fz,qz⟩) ?_
   repeat (first|refine xS ?_|exact xT)
  ·rw [if_neg cx] at hp3;subst hp3;exact absurd rfl e3
 obtain ⟨a3,ha3⟩:∃ a3,a3=i+p3.1:=⟨_,rfl⟩
 refine SWp.toT (F:=mk 206 2 [(0,.sl nl none (b.map u8)),(1,int (i:Int)),(2,int (room:Int)),(6,.op 6 0 0),(7,int (f:Int)),(8,.op 8 1 0),(11,int (a3:Int))] [(6,0,.row false [str [],int 0,.sc (.slice none 0 0),int 0,int 0]),(8,1,.row false [str nm,int (t:Int),.sc (.slice none 0 0)])]) ?_ ?_
 ·refine SWp.cond rfl (fun h=>?_) (fun h=>?_)
  ·simp only [decide_eq_true_eq] at h
   rw [if_neg zO] at hp3
   by_cases cx:Lib.indexByte (b.drop a2) 0<0
   ·rw [if_pos cx] at hp3;subst hp3;cases e3
   rw [if_neg cx] at hp3
   rw [ZDn cx] at qz
   have hk:=(ZhD cx).2
   rw [List.length_drop] at hk
   obtain ⟨k,hkk⟩:∃ k,k=(Lib.indexByte (b.drop a2) 0).toNat:=⟨_,rfl⟩
   rw [←hkk] at qz hp3 hk
   obtain ⟨z,hz⟩:∃ z,z=a2+k:=⟨_,rfl⟩
   rw [←hz] at qz
   subst hp3
   simp only at ha3
   repeat (first|refine xS ?_|exact xT)
   refine Zaq _ (.inl ⟨fz,qz⟩) ?_
   repeat (first|refine xS ?_|exact xT)
   refine Zal rfl ?_ ?_ ?_
   ·exact Nat.le_refl _
   ·(first|exact vT|refine vS ?_)
    omega
   ·(first|exact vT|refine vS ?_)
  ·simp only [decide_eq_false_iff_not] at h
   rw [if_pos zO] at hp3
   subst hp3
   simp only at ha3
   obtain rfl:a3=a2:=zO
   refine SWp.skip (Zal rfl ?_ ?_ ?_)
   ·exact Nat.le_refl _
   iterate 2 (case _=>(first|exact vT|refine vS ?_))
 obtain ⟨i3,z3⟩:=p3
 simp only at e3
 subst e3
 simp only at hq3 htR ha3 ⊢
 have hd3:B.drop i3=b.drop a3:=by rw [hdd,ha3]
 have hBt:(b.take a3).drop i=B.take i3:=by rw [List.drop_take,hBd,ha3,Nat.add_sub_cancel_left]
 clear no1 no2 no3 hp1 hp2 hp3 hq1 hq2 hd1 hd2
 have fz:AV.free.freeL [.sl nl none (b.map u8),int (a3:Int),int 2]=true:=by simp only [AV.free,AV.free.freeL,Zag,int,Bool.and_self]
 have qg:=Zf4 nl b zO (a3:Int) 2 zO zO
 obtain ⟨S,hS⟩:∃ S,S=B.take i3:=⟨_,rfl⟩
 rw [←hS] at hBt
 have hSl:S.length=i3:=by rw [hS,List.length_take,Nat.min_eq_left hq3]
 have qc:=Zp9 nl S zO
 have fs:AV.free.freeL [.sl nl none (S.map u8)]=true:=by simp only [AV.free,AV.free.freeL,Zag,Bool.and_self]
 rw [tS4,if_pos rfl] at htR
 simp only [hd3,←hS] at htR
 obtain ⟨c,hc⟩:∃ c,c=Zdr 0 S:=⟨_,rfl⟩
 rw [←hc] at qc htR
 have cast2:∀ x:Nat,x<65536→IntKind.u32.wrap (x:Int)=(x:Int):=fun x hx=>by rw [ZdC];omega
 have htw3:two b a3=leN ((b.drop a3).take 2):=rfl
 repeat (first|refine xS ?_|exact xT)
 by_cases e4:TR.2.2=0
 rotate_left
 ·have hR:=hm.trans (ZoS rfl e4)
  by_cases c2:f / 2 % 2=0
  ·rw [if_pos c2] at htR;subst htR;exact absurd rfl e4
  rw [if_neg c2] at htR
  refine SWp.cond rfl (fun _=>?_) (fun h=>absurd (of_decide_eq_false h) zO)
  by_cases c5:B.length<i3+2
  ·rw [if_pos c5] at htR
   rw [ZsO zO] at qg
   subst htR hR
   rw [Zds zB]
   repeat (first|refine xS ?_|exact xT)
   refine Zaq _ (.inl ⟨fz,qg⟩) ?_
   repeat (first|refine xS ?_|exact xT)
  ·rw [if_neg c5] at htR
   rw [Zks zO] at qg
   have h2:=(ZnQ (b:=b) (i:=a3) zO).1
   have hw2:((b.drop a3).take 2).length=2:=by rw [List.length_take,List.length_drop];omega
   have q5:=ZzC hw2 (c:=c)
   rw [←htw3] at q5
   by_cases c6:(b.drop a3).take 2=leB c.toNat 2
   ·rw [if_pos c6] at htR;subst htR;exact absurd rfl e4
   rw [if_neg c6] at htR
   rw [decide_eq_false c6] at q5
   obtain ⟨n,hn⟩:∃ n,n=two b a3:=⟨_,rfl⟩
   rw [←hn] at qg q5 h2
   subst htR hR
   rw [Zds zB]
   repeat (first|refine xS ?_|exact xT)
   refine Zaq _ (.inl ⟨fz,qg⟩) ?_
   repeat (first|refine xR (ja2 @List.length_map.{0,0} @hBt) ?_|exact xU (ja2 @List.length_map.{0,0} @hBt))
   refine Zaq _ (.inl ⟨fs,qc⟩) ?_
   repeat (first|refine xR (ja3 @ZsN @ZlY @q5) ?_|exact xU (ja3 @ZsN @ZlY @q5))
 obtain ⟨a4,ha4⟩:∃ a4,a4=i+TR.2.1:=⟨_,rfl⟩
 have hnm:TR.1=nm:=by rw [htR]
 refine SWp.toT (F:=mk 206 2 [(0,.sl nl none (b.map u8)),(1,int (i:Int)),(2,int (room:Int)),(6,.op 6 0 0),(8,.op 8 1 0),(11,int (a4:Int))] [(6,0,.row false [str [],int 0,.sc (.slice none 0 0),int 0,int 0]),(8,1,.row false [str nm,int (t:Int),.sc (.slice none 0 0)])]) ?_ ?_
 ·refine SWp.cond rfl (fun h=>?_) (fun h=>?_)
  ·simp only [decide_eq_true_eq] at h
   rw [if_neg zO] at htR
   by_cases c5:B.length<i3+2
   ·rw [if_pos c5] at htR;subst htR;cases e4
   rw [if_neg c5] at htR
   rw [Zks zO] at qg
   have h2:=(ZnQ (b:=b) (i:=a3) zO).1
   have hw2:((b.drop a3).take 2).length=2:=by rw [List.length_take,List.length_drop];omega
   have q5:=ZzC hw2 (c:=c)
   rw [←htw3] at q5
   by_cases c6:(b.drop a3).take 2=leB c.toNat 2
   rotate_left
   ·rw [if_neg c6] at htR;subst htR;cases e4
   rw [if_pos c6] at htR
   rw [decide_eq_true c6] at q5
   obtain ⟨n,hn⟩:∃ n,n=two b a3:=⟨_,rfl⟩
   rw [←hn] at qg q5 h2
   rw [htR] at ha4
   simp only at ha4
   repeat (first|refine xS ?_|exact xT)
   refine Zaq _ (.inl ⟨fz,qg⟩) ?_
   repeat (first|refine xR (ja2 @List.length_map.{0,0} @hBt) ?_|exact xU (ja2 @List.length_map.{0,0} @hBt))
   refine Zaq _ (.inl ⟨fs,qc⟩) ?_
   repeat (first|refine xR (ja3 @ZsN @ZlY @q5) ?_|exact xU (ja3 @ZsN @ZlY @q5))
   refine Zal rfl ?_ ?_ ?_
   ·exact Nat.le_refl _
   ·(first|exact vT|refine vS ?_)
    omega
   ·(first|exact vT|refine vS ?_)
  ·simp only [decide_eq_false_iff_not] at h
   rw [if_pos zO] at htR
   rw [htR] at ha4
   simp only at ha4
   obtain rfl:a4=a3:=zO
   refine SWp.skip (Zal rfl ?_ ?_ ?_)
   ·exact Nat.le_refl _
   iterate 2 (case _=>(first|exact vT|refine vS ?_))
 obtain ⟨nm',i4,z4⟩:=TR
 simp only at e4 hnm
 subst e4 hnm
 simp only at hq4 ha4
 have hd4:B.drop i4=b.drop a4:=by rw [hdd,ha4]
 clear htR hd3 hBt htw3 qg qc fs hS hc cast2 qz
 have hI:=ZpZ nl (b.drop a4) (by rw [List.length_drop];omega) (room:Int) F (by rw [List.length_drop];omega)
 rw [Zqc zO] at hI
 have fI:AV.free.freeL [.sl nl none ((b.drop a4).map u8),int (room:Int)]=true:=by simp only [AV.free,AV.free.freeL,Zag,int,Bool.and_self]
 rw [ZBw,if_neg zB] at hm
 simp only [hd4] at hm
 rcases ZiD (b:=b.drop a4) (m:=room) (F:=F) with ⟨e5,hi5,he5,-⟩ | ⟨D,j,-,hi5,hD,hj0,hj⟩
 ·rw [hi5] at hm hI
  simp only at hm
  rw [if_pos he5] at hm
  rw [Zxu,if_neg he5] at hI
  have d5:decide ((e5:Int)=0)=false:=decide_eq_false zO
  subst hm
  rw [Zds he5]
  repeat (first|refine xR @List.length_map.{0,0} ?_|exact xU @List.length_map.{0,0})
  refine Zaq _ (.inl ⟨fI,hI⟩) ?_
  repeat (first|refine xR @d5 ?_|exact xU @d5)
 rw [List.length_drop] at hj
 obtain ⟨u,hu⟩:∃ u,u=(j+7) / 8:=⟨_,rfl⟩
 rw [←hu] at hi5
 rw [hi5] at hm hI
 simp only [ne_eq,not_true_eq_false,if_false] at hm
 rw [Zxu,if_pos rfl] at hI
 simp only at hI
 by_cases c8:b.length<a4+u+8
 ·rw [if_pos zO] at hm
  have d8:decide ((b.length:Int)-((a4:Int)+(u:Int))<8)=true:=decide_eq_true zO
  subst hm
  rw [Zds (by decide)]
  repeat (first|refine xR @List.length_map.{0,0} ?_|exact xU @List.length_map.{0,0})
  refine Zaq _ (.inl ⟨fI,hI⟩) ?_
  repeat (first|refine xR (ja2 @d8 @List.length_map.{0,0}) ?_|exact xU (ja2 @d8 @List.length_map.{0,0}))
 have d8:decide ((b.length:Int)-((a4:Int)+(u:Int))<8)=false:=decide_eq_false zO
 rw [if_neg zO,hdd,show i+(i4+u)=a4+u by omega] at hm
 have qc:=Zp9 (nl0 D.length) D zO
 have fc:AV.free.freeL [.sl (nl0 D.length) none (D.map u8)]=true:=by simp only [AV.free,AV.free.freeL,Zag,Bool.and_self]
 rw [tlB] at hm
 have hcl:=(Zdr 0 D).toNat_lt
 obtain ⟨c,hc⟩:∃ c,c=Zdr 0 D:=⟨_,rfl⟩
 rw [←hc] at qc hm hcl
 have l1:=Zzh c.toNat zO
 have l2:=Zzg D.length zO
 have hX:(leB c.toNat 4).length=4:=ZaQ
 have hY:(leB D.length 4).length=4:=ZaQ
 have w2:IntKind.u64.wrap (c.toNat:Int)=(c.toNat:Int):=Zbd zO zO
 have w3:IntKind.u64.wrap (D.length:Int)=(D.length:Int):=Zbd zO zO
 have hdt:(b.take (a4+u+8)).drop (a4+u)=(b.drop (a4+u)).take 8:=by rw [List.drop_take,Nat.add_sub_cancel_left]
 obtain ⟨X,eX⟩:∃ X,X=leB c.toNat 4:=⟨_,rfl⟩
 obtain ⟨Y,eY⟩:∃ Y,Y=leB D.length 4:=⟨_,rfl⟩
 rw [←eX] at l1 hX hm
 rw [←eY] at l2 hY hm
 obtain ⟨Z,eZ⟩:∃ Z,Z=(b.drop (a4+u)).take 8:=⟨_,rfl⟩
 rw [←eZ] at hdt hm
 have hXY:(X++Y).take 8=X++Y:=List.take_of_length_le (by rw [List.length_append];omega)
 repeat (first|refine xR @List.length_map.{0,0} ?_|exact xU @List.length_map.{0,0})
 refine Zaq _ (.inl ⟨fI,hI⟩) ?_
 repeat (first|refine xR (ja2 @d8 @List.length_map.{0,0}) ?_|exact xU (ja2 @d8 @List.length_map.{0,0}))
 refine SWp.reg4 ?_
 repeat (first|refine xS ?_|exact xT)
 refine Zaq _ (.inl ⟨fc,qc⟩) ?_
 repeat (first|refine xR @w2 ?_|exact xU @w2)
 refine Zab [] 200000 l1 zB zB ?_ ?_ ?_
 iterate 2 (case _=>(first|exact vT|refine vS ?_))
 repeat (first|refine xR (ja3 @Zvg @w3 @List.length_map.{0,0}) ?_|exact xU (ja3 @Zvg @w3 @List.length_map.{0,0}))
 refine Zaq _ (.inl ⟨rfl,l2⟩) ?_
 repeat (first|refine xR (ja4 @hX @hY @hdt @List.length_map.{0,0}) ?_|exact xU (ja4 @hX @hY @hdt @List.length_map.{0,0}))
 have hL:(((X.map u8++Y.map u8).take 8).map Zqk)=X++Y:=by
  rw [←List.map_append,List.take_of_length_le (by rw [List.length_map,List.length_append];omega),Zv3]
 have hT:((a4:Int)+(u:Int)+8).toNat=a4+u+8:=zO
 have e9:((i+(i4+u+8):Nat):Int)=(a4:Int)+(u:Int)+8:=zO
 refine ⟨by rw [hL,List.map_append,List.take_of_length_le (by rw [List.length_append,List.length_map,List.length_map];omega)],by omega,?_⟩
 refine SWp.cond rfl (fun h=>?_) (fun h=>?_)
 ·rw [hL,hT,hdt] at h
  simp only [Bool.not_eq_true',decide_eq_false_iff_not] at h
  rw [if_neg (fun e=>h e.symm)] at hm
  subst hm
  rw [Zds (by decide)]
  repeat (first|refine xS ?_|exact xT)
 ·rw [hL,hT,hdt] at h
  simp only [Bool.not_eq_false',decide_eq_true_eq] at h
  rw [if_pos h.symm] at hm
  subst hm
  rw [ZBx,if_pos rfl]
  simp only
  rw [e9]
  repeat (first|refine xS ?_|exact xT)
set_option maxHeartbeats 2000000 in
theorem Zqg [Tabs Tryz.prog] (nl:Bool) (B:List UInt8) (hl:B.length≤4096) (room:Nat) (hr:room≤1000000) (F:Nat) (hF:8*B.length<F) (fu:Nat) (hfu:B.length<fu) (R:Nat × Nat × List Mb) (hR:R=ZuM B F fu 0 room []) :
  Con Tryz.prog Zcl [.sl nl none (B.map u8),int (room:Int)] (Zxj R):=by
 refine Con.of' mix Tryz.func11 rfl Tryz.ntmps11 ZeD ZeE zB (by simp only [AV.free,AV.free.freeL,Zag,int,Bool.and_self]) Zqd ?_
 unfold Zcu
 have d1:decide ((room:Int)<0)=false:=decide_eq_false zO
 have d2:decide ((16777216:Int)<(room:Int))=false:=decide_eq_false zO
 repeat (first|refine xR (ja2 @d1 @d2) ?_|exact xU (ja2 @d1 @d2))
 refine SWp.adopt 6 (some 3) vT ?_
 refine SWp.loop (α:=Nat × Nat × Nat × List Mb) (fun x=>mk 51 (2*x.1+2) [(0,.sl nl none (B.map u8)),(1,int (x.2.2.1:Int)),(4,.sc (.slice none 0 0)),(5,.op 5 0 0),(6,.own 6 (2*x.1+1) (some 3) 0 x.1),(7,int (x.2.1:Int))] [(5,0,.row false [str [],int 0,int 0]),(6,2*x.1+1,.row (nl0 x.1) (mbC x.2.2.2))])
  (upI B F R) (fun x=>B.length-x.2.1) (0,0,room,[]) ⟨Nat.zero_le _,hr,rfl,Nat.le_refl _,fun _=>rfl,fun _=>⟨fu,by simp only;omega,hR⟩,fun h=>absurd (.inl rfl) h⟩ (Zal rfl ?_ ?_ ?_) ?_
 ·exact Nat.le_refl _
 iterate 2 (case _=>(first|exact vU BJ1|refine vR BJ1 ?_))
 rintro ⟨k,a,rm,ms⟩ ⟨ha,hrm,hms,hka,hk0,hgo,hst⟩ -
 simp only at ha hrm hms hka hk0 hgo hst ⊢
 by_cases c:a=0∨a<B.length
 ·obtain ⟨f,hf,hRf⟩:=hgo c
  obtain ⟨f,rfl⟩:∃ g,f=g+1:=⟨f-1,by omega⟩
  have hc:(decide ((a:Int)<(B.length:Int))=false∧decide ((k:Int)=0)=true)∨decide ((a:Int)<(B.length:Int))=true:=by
   by_cases h:a<B.length
   ·exact .inr (decide_eq_true zO)
   ·exact .inl ⟨decide_eq_false zO,decide_eq_true zO⟩
  have p1:=Zqf nl B hl a ha rm hrm F zO _ rfl
  have fp:AV.free.freeL [.sl nl none (B.map u8),int (a:Int),int (rm:Int)]=true:=by simp only [AV.free,AV.free.freeL,Zag,int,Bool.and_self]
  have hok:=ZrV (b:=B.drop a) (room:=rm) (F:=F)
  rw [ZuM] at hRf
  obtain ⟨r,hrr⟩:∃ r,r=Zkw (B.drop a) rm F:=⟨_,rfl⟩
  rw [←hrr] at p1 hok hRf
  rw [List.length_drop] at hok
  obtain ⟨e,nm,mt,D,nx⟩:=r
  simp only at hok hRf
  by_cases ce:e=0
  ·subst ce
   obtain ⟨o1,o2,o3,o4⟩:=hok rfl
   rw [if_neg (by decide)] at hRf
   rw [ZBx,if_pos rfl] at p1
   simp only at p1
   obtain ⟨a',ha'⟩:∃ a',a'=a+nx:=⟨_,rfl⟩
   rw [←ha'] at p1 hRf
   have e1:((rm-D.length:Nat):Int)=(rm:Int)-(D.length:Int):=zO
   have e3:nl0 (k+1)=false:=rfl
   have hml:k*3=(mbC ms).length:=by rw [ZiB,hms]
   have hmc:mbC (ms++[(nm,mt,D,[])])=mbC ms++[str nm,int (mt:Int),.sl (nl0 D.length) none (D.map u8)]:=ZsG
   have hI:upI B F R (k+1,a',rm-D.length,ms++[(nm,mt,D,[])]):=by
    refine ⟨by simp only;omega,by simp only;omega,by simp only [List.length_append,List.length_cons,List.length_nil];omega,by simp only;omega,fun h=>absurd h zB,fun h=>?_,fun h=>?_⟩
    ·simp only at h ⊢
     refine ⟨f,by omega,?_⟩
     rw [hRf,if_pos zO]
    ·simp only at h ⊢
     rw [hRf,if_neg zO]
   have hD63:(D.length:Int)<9223372036854775808:=zO
   rcases hc with ⟨dL,d0⟩ | dL
   ·repeat (first|refine xR (ja3 @d0 @dL @List.length_map.{0,0}) ?_|exact xU (ja3 @d0 @dL @List.length_map.{0,0}))
    refine Zaq _ (.inl ⟨fp,p1⟩) ?_
    repeat (first|refine xR @List.length_map.{0,0} ?_|exact xU @List.length_map.{0,0})
    refine ⟨⟨_,rfl,rfl⟩,⟨fun y hy=>⟨_,List.mem_singleton.1 hy⟩,hml,by omega,by omega⟩,?_⟩
    repeat (first|refine xR @List.length_map.{0,0} ?_|exact xU @List.length_map.{0,0})
    refine At.of (k+1,a',rm-D.length,ms++[(nm,mt,D,[])]) hI (by simp only;omega) rfl rfl (Nat.le_refl _) ?_ ?_
    ·(first|exact vU @e1|refine vR @e1 ?_)
     omega
    ·(first|exact vU (ja2 @hmc @e3)|refine vR (ja2 @hmc @e3) ?_)
     exact ⟨by omega,rfl⟩
   ·repeat (first|refine xR (ja2 @dL @List.length_map.{0,0}) ?_|exact xU (ja2 @dL @List.length_map.{0,0}))
    refine Zaq _ (.inl ⟨fp,p1⟩) ?_
    repeat (first|refine xR @List.length_map.{0,0} ?_|exact xU @List.length_map.{0,0})
    refine ⟨⟨_,rfl,rfl⟩,⟨fun y hy=>⟨_,List.mem_singleton.1 hy⟩,hml,by omega,by omega⟩,?_⟩
    repeat (first|refine xR @List.length_map.{0,0} ?_|exact xU @List.length_map.{0,0})
    refine At.of (k+1,a',rm-D.length,ms++[(nm,mt,D,[])]) hI (by simp only;omega) rfl rfl (Nat.le_refl _) ?_ ?_
    ·(first|exact vU @e1|refine vR @e1 ?_)
     omega
    ·(first|exact vU (ja2 @hmc @e3)|refine vR (ja2 @hmc @e3) ?_)
     exact ⟨by omega,rfl⟩
  ·rw [if_pos ce] at hRf
   have de:decide ((e:Int)=0)=false:=decide_eq_false zO
   rw [ZBx,if_neg ce] at p1
   simp only at p1
   subst hRf
   rw [Zxj,if_neg ce]
   rcases hc with ⟨dL,d0⟩ | dL
   ·repeat (first|refine xR (ja3 @d0 @dL @List.length_map.{0,0}) ?_|exact xU (ja3 @d0 @dL @List.length_map.{0,0}))
    refine Zaq _ (.inl ⟨fp,p1⟩) ?_
    repeat (first|refine xR (ja2 @de @List.length_map.{0,0}) ?_|exact xU (ja2 @de @List.length_map.{0,0}))
   ·repeat (first|refine xR (ja2 @dL @List.length_map.{0,0}) ?_|exact xU (ja2 @dL @List.length_map.{0,0}))
    refine Zaq _ (.inl ⟨fp,p1⟩) ?_
    repeat (first|refine xR (ja2 @de @List.length_map.{0,0}) ?_|exact xU (ja2 @de @List.length_map.{0,0}))
 ·have hRe:=hst c
  have hk1:0<k:=by
   rcases Nat.eq_zero_or_pos k with h | h
   ·exact absurd (.inl (hk0 h)) c
   ·exact h
  have d0:decide ((k:Int)=0)=false:=decide_eq_false zO
  have dL:decide ((a:Int)<(B.length:Int))=false:=decide_eq_false zO
  have hcn:=Zk6 (l:=ms) hms.symm
  have hml:(mbC ms).length=k*3:=by rw [ZiB,hms]
  have hnl:=Zci hk1
  subst hRe
  rw [Zxj,if_pos rfl]
  repeat (first|refine xR (ja6 @d0 @dL @List.length_map.{0,0} @hcn @hml @hnl) ?_|exact xU (ja6 @d0 @dL @List.length_map.{0,0} @hcn @hml @hnl))
theorem Zna [Tabs Tryz.prog] (nl:Bool) (B:List UInt8) (m:Int) (h:m<0∨16777216<m):Con Tryz.prog Zcl [.sl nl none (B.map u8),int m] (.tup [.sc (.slice none 0 0),.agg [str [],int 0,int 1]]):=by
 refine Con.of' mix Tryz.func11 rfl Tryz.ntmps11 ZeD ZeE zB (by simp only [AV.free,AV.free.freeL,Zag,int,Bool.and_self]) rfl ?_
 unfold Zcu
 by_cases c:m<0
 ·have d:=decide_eq_true c
  repeat (first|refine xR @d ?_|exact xU @d)
 ·have d:=decide_eq_false c
  have d2:decide (16777216<m)=true:=decide_eq_true zO
  repeat (first|refine xR (ja2 @d @d2) ?_|exact xU (ja2 @d @d2))
theorem ZoT [Tabs Tryz.prog] (nl:Bool) (B:List UInt8) (m:Int) (h:m<0∨16777216<m):Con Tryz.prog ZdG [.sl nl none (B.map u8),int m] (.tup [.sc (.slice none 0 0),.agg [str [],int 0,int 1]]):=by
 refine Con.of' mix Tryz.func10 rfl Tryz.ntmps10 Zho Zhp zB (by simp only [AV.free,AV.free.freeL,Zag,int,Bool.and_self]) rfl ?_
 unfold Ze8
 by_cases c:m<0
 ·have d:=decide_eq_true c
  repeat (first|refine xR @d ?_|exact xU @d)
 ·have d:=decide_eq_false c
  have d2:decide (16777216<m)=true:=decide_eq_true zO
  repeat (first|refine xR (ja2 @d @d2) ?_|exact xU (ja2 @d @d2))
theorem Zir [Tabs Tryz.prog]:Con Tryz.prog Zdf [.sc (.slice none 0 0),.sc (.slice none 0 0)] (boo true):=by
 refine Con.of' mix Tryz.func12 rfl Tryz.ntmps12 ZfW ZfX zB rfl rfl ?_
 unfold Zdn
 repeat (first|refine xS ?_|exact xT)
 refine SWp.unroll ?_
 repeat (first|refine xS ?_|exact xT)
theorem ZrY {b:List UInt8} (h:b.length≤65535):stL b=ZlN 1 b:=by
 rw [stL,show (b.length-1) / 65535=0 by omega]
 simp [stK]
theorem ZrZ {b:List UInt8}:(tlB b).length=8:=by rw [tlB,List.length_append,ZaQ,ZaQ]
def mbA (nm:ByteArray) (mt:Int) (nl:Bool) (b:List UInt8):AV:=.agg [.sc (.string nm),int mt,.sl nl none (b.map u8)]
set_option maxHeartbeats 1000000 in
theorem Zxl [Tabs Tryz.prog] (nm:ByteArray) (hn:nm.data.toList.length≤200) (hz:Lib.indexByte nm.data.toList 0<0) (mt:Nat) (hm:mt<4294967296) (nl:Bool) (b:List UInt8) (hb:b.length≤1000000) (how:Int) (K:List UInt8) (hK:K.length≤1000000)
  (hD:Con Tryz.prog ZcC [.sl nl none (b.map u8),int how] (.tup [.sl false none (K.map u8),int 0])) (n:Nat) (hnn:n=(hdB nm.data.toList mt++(K++tlB b)).length) :
  HCon Tryz.prog Zjc [mbA nm mt nl b,int how] [] (.tup [.own 4022 8 none 0 n,int 0]) [(4022,8,.row false ((hdB nm.data.toList mt++(K++tlB b)).map u8))] 20:=by
 refine HCon.of' mix Tryz.func30 rfl Tryz.ntmps30 Zrh Zri zB (by simp only [mbA,AV.gl,AV.gl.glL,int,and_true,true_and];exact Zan _ _ Zag) zB ?_
 unfold Zmv
 have hf:AV.free.freeL (b.map u8)=true:=Zag
 have p1:=ZjG nm 0
 have p2:=Zp4 nl b hb
 have p3:=Zw1 nm hn mt hm nl b
 obtain ⟨H,hH⟩:∃ H,H=hdB nm.data.toList mt:=⟨_,rfl⟩
 obtain ⟨T,hT⟩:∃ T,T=tlB b:=⟨_,rfl⟩
 have hTl:T.length=8:=by rw [hT,tlB,List.length_append,ZaQ,ZaQ]
 have hHl:=ZrM (nm:=nm.data.toList) (mt:=mt)
 rw [←hH] at p3 hnn hHl ⊢
 rw [←hT] at p2 hnn ⊢
 simp only [List.length_append] at hnn
 have p4:=ZlL false false false H K T n zO zO zO
 have d1:decide ((mt:Int)<0)=false:=decide_eq_false zO
 have d2:decide ((4294967295:Int)<(mt:Int))=false:=decide_eq_false zO
 have d3:decide ((200:Int)<(nm.data.toList.length:Int))=false:=decide_eq_false zO
 have d4:decide ((0:Int)≤Lib.indexByte nm.data.toList 0)=false:=decide_eq_false zO
 have t8:(T.map u8).take 8=T.map u8:=List.take_of_length_le (by simp;omega)
 repeat (first|refine zR (ja4 @mbA.eq_1 @d1 @d2 @d3) ?_|exact zU (ja4 @mbA.eq_1 @d1 @d2 @d3))
 refine Zaq _ (.inl ⟨rfl,p1⟩) ?_
 repeat (first|refine zR @d4 ?_|exact zU @d4)
 refine Zaq _ (.inl ⟨by simp only [AV.free,AV.free.freeL,int,Zag,Bool.and_self],hD⟩) ?_
 repeat (first|refine zS ?_|exact zT)
 refine Zaq _ (.inl ⟨by simp only [AV.free,AV.free.freeL,Zag,Bool.and_self],p2⟩) ?_
 iterate 1 (first|refine zR @hTl ?_|exact zU @hTl)
 refine SWp.le (Zal (N:=46) (gc:=3) (l:=[(2,.op 2 1 0),(6,.sl false none (K.map u8)),(8,.op 8 2 0)]) (h:=[(2,1,.row false [.sc (.string nm),int mt,.sl nl none (b.map u8)]),(8,2,.row false (T.map u8))]) rfl ?_ ?_ ?_) ?_
 ·exact Nat.le_refl _
 iterate 2 (case _=>(first|exact yU @hTl|refine yR @hTl ?_))
 refine SWp.frzo 8 2 (nl:=false) (cells:=T.map u8) yT Zag ?_
 refine SWp.le (Zal (N:=46) (gc:=3) (l:=[(2,.op 2 1 0),(6,.sl false none (K.map u8)),(8,.fp (.agg (T.map u8)) 0)]) (h:=[(2,1,.row false [.sc (.string nm),int mt,.sl nl none (b.map u8)])]) rfl ?_ ?_ ?_) ?_
 ·exact Nat.le_refl _
 iterate 2 (case _=>(first|exact yU (ja2 fR @hTl)|refine yR (ja2 fR @hTl) ?_))
 repeat (first|refine zS ?_|exact zT)
 refine Zaq _ (.inl ⟨by simp only [AV.free,AV.free.freeL,Zag,Bool.and_self],p3⟩) ?_
 repeat (first|refine zR (ja2 @t8 @hTl) ?_|exact zU (ja2 @t8 @hTl))
 refine Zab [] 3000 p4 zB zB ?_ ?_ ?_
 iterate 2 (case _=>(first|exact yT|refine yS ?_))
 repeat (first|refine zS ?_|exact zT)
set_option maxHeartbeats 1000000 in
theorem Zzl {c R:List UInt8} (hc:c.length≤65535) {most:Nat} (hm:c.length≤most):ZaG (ZlN 1 c++R) 0 3=1∧(ZuK most []).run (Zae (ZlN 1 c++R)) 3 = .ok c (8*(c.length+5)):=by
 have h:=ZBr (most:=most) (F:=1) (out:=[]) (u:=1) zO hc (by simpa using hm) (B:=Zae (ZlN 1 c++R)) (R:=Zae R) (j:=0) (Nat.zero_le _) (by rw [Nat.mul_zero,List.drop_zero,ZbP])
 have hl:0+3≤8*(ZlN 1 c++R).length:=by rw [List.length_append,Zcx];omega
 have h1:ZaG (ZlN 1 c++R) 0 3=1:=by
  have e1:=Zk8 (v:=1) (n:=3) (Zae (ZlN 1 c++R)) (Zea 0 5++(Zea c.length 16++(Zea (65535-c.length) 16++Zae c))++Zae R) 0 (Nat.zero_le _) (by rw [List.drop_zero,ZbP,ZsI zO hc];simp only [List.append_assoc])
  have e2:=Zdq (b:=ZlN 1 c++R) (i:=0) (n:=3) (Nat.zero_le _)
  rw [if_pos hl,e1] at e2
  simp only [BR.ok.injEq] at e2
  exact e2.1.symm
 refine ⟨h1,?_⟩
 rw [Nat.mul_zero,ZoX,Zak,Zdq (Nat.zero_le _),if_pos hl] at h
 simp only [BR.bnd] at h
 rw [Zak,h1,Zrx,if_pos zO] at h
 simp only [Nat.zero_add] at h
 generalize (ZuK most []).run (Zae (ZlN 1 c++R)) 3=r at h ⊢
 cases r with
 | no e=>cases h
 | ok o j =>
  simp only [BR.bnd,BT.run] at h
  injection h with a b
  have a2:=congrArg Prod.snd a
  simp only [List.nil_append] at a2
  rw [a2,b]
  congr 1
  omega
def BJ3:=ja4 @unI.eq_1 @unR.eq_1 @rdR.eq_1 @Zaa
set_option maxHeartbeats 2000000 in
theorem ZoU [Tabs Tryz.prog] (most:Nat) (hm:most≤16777216) (c b:List UInt8) (hl:b.length≤1000000) (h3:0+3≤8*b.length) (h1:ZaG b 0 3=1) (hs:(ZuK most []).run (Zae b) 3 = .ok c (8*(c.length+5))) :
  HCon Tryz.prog ZbK [.op 1000 0 0] (unI false most false b 0 []) (.tup [boo true,int 0]) (unO 104 false most false b (8*(c.length+5)) c) 200:=by
 refine HCon.of' mix Tryz.func20 rfl Tryz.ntmps20 Zdt Zdu zB (by simp [AV.gl,AV.gl.glL,int]) Zem ?_
 unfold ZbL
 have hT:=Zdo false b hl 0 (Nat.zero_le _) 3 zO h3
 obtain ⟨h,hh⟩:∃ h,h=ZaG b 0 3:=⟨_,rfl⟩
 rw [←hh] at hT h1
 have hS:=Zlp false most hm false b hl (fun h=>by cases h) 3 zO [] (Nat.zero_le _) _ hs
 have hlast:decide (((h % 2:Nat):Int)=1)=true:=decide_eq_true zO
 have hl2:decide ((h:Int)=1)=true:=decide_eq_true zO
 have hp:h / 2=0:=zO
 have h7:h<8:=zO
 obtain ⟨j,hj⟩:∃ j,j=8*(c.length+5):=⟨_,rfl⟩
 rw [←hj] at hS ⊢
 clear hs
 repeat (first|refine zR (ja2 @unI.eq_1 @unR.eq_1) ?_|exact zU (ja2 @unI.eq_1 @unR.eq_1))
 refine Zab [(1001,0)] 2000 hT zB zB ?_ ?_ ?_
 iterate 2 (case _=>(first|exact yU @rdR.eq_1|refine yR @rdR.eq_1 ?_))
 repeat (first|refine zR (ja4 @unR.eq_1 @rdR.eq_1 @hp @Nat.pow_one) ?_|exact zU (ja4 @unR.eq_1 @rdR.eq_1 @hp @Nat.pow_one))
 refine Zab [(1000,0),(1001,0),(1002,0)] 3000 hS zB zB ?_ ?_ ?_
 iterate 2 (case _=>(first|exact yU BJ3|refine yR BJ3 ?_))
 repeat (first|refine zR (ja8 @ZbV.eq_1 @ZbV.eq_2 @ZbW.eq_1 @ZbW.eq_2 @unO.eq_1 @unR.eq_1 @rdR.eq_1 (ja4 @Zaa @ZbC @hlast @hl2)) ?_|exact zU (ja8 @ZbV.eq_1 @ZbV.eq_2 @ZbW.eq_1 @ZbW.eq_2 @unO.eq_1 @unR.eq_1 @rdR.eq_1 (ja4 @Zaa @ZbC @hlast @hl2)))
def BJ4:=ja2 @List.set_cons_zero.{0} @List.set_cons_succ.{0}
def BJ5:=ja5 @unI.eq_1 @unR.eq_1 @rdR.eq_1 @ZeI @Zay
def BJ6:=ja5 @unO.eq_1 @unR.eq_1 @rdR.eq_1 @Zaa @ZeI
set_option maxHeartbeats 2000000 in
theorem Zxm [Tabs Tryz.prog] (c R:List UInt8) (hc:c.length≤65535) (hR:R.length≤100000) (m:Nat) (hm:m≤16777216) (hcm:c.length≤m) :
  Con Tryz.prog Za5 [.sl false none ((ZlN 1 c++R).map u8),int (m:Int)] (.tup [.sl (nl0 c.length) none (c.map u8),int ((c.length+5:Nat):Int),int 0]):=by
 refine Con.of' mix Tryz.func7 rfl Tryz.ntmps7 ZgW ZgX zB (by simp only [AV.free,AV.free.freeL,Zag,int,Bool.and_self]) (by simp only [AV.free,AV.free.freeL,Zag,int,Bool.and_self]) ?_
 unfold Zej
 obtain ⟨k1,k2⟩:=Zzl (R:=R) hc hcm
 have h3:0+3≤8*(ZlN 1 c++R).length:=by rw [List.length_append,Zcx];omega
 have hl:(ZlN 1 c++R).length≤1000000:=by rw [List.length_append,Zcx];omega
 obtain ⟨b,hb⟩:∃ b,b=ZlN 1 c++R:=⟨_,rfl⟩
 rw [←hb] at k1 k2 h3 hl ⊢
 have hB:=ZoU m hm c b hl h3 k1 k2
 obtain ⟨j,hj⟩:∃ j,j=8*(c.length+5):=⟨_,rfl⟩
 rw [←hj] at hB
 have hA:=ZpG false b j
 have d1:decide ((m:Int)<0)=false:=decide_eq_false zO
 have d2:decide ((16777216:Int)<(m:Int))=false:=decide_eq_false zO
 obtain ⟨w,hw⟩:∃ w,w=j+7:=⟨_,rfl⟩
 have ew:(j:Int)+8-1=(w:Int):=zO
 have ec:c.length+5=w / 8:=zO
 rw [ec]
 clear k1 k2 hb hj
 repeat (first|refine zR (ja2 @d1 @d2) ?_|exact zU (ja2 @d1 @d2))
 refine Zab [] 2000 (ZhQ false b hl (fun h=>by cases h)) zB zB ?_ ?_ ?_
 iterate 2 (case _=>(first|exact yT|refine yS ?_))
 iterate 1 (first|refine zR @rdR.eq_1 ?_|exact zU @rdR.eq_1)
 refine SWp.adoptC 19 2 1 100 none (nl:=false) (cells:=[.op 2006 1 0,.sc (.slice none 0 0),int (m:Int),.sc (.pointer none)]) yT rfl (by decide) ?_
 repeat (first|refine zR BJ4 ?_|exact zU BJ4)
 refine SWp.unroll ?_
 repeat (first|refine zS ?_|exact zT)
 refine Zab [(19,2),(2006,1),(100,3)] 3000 hB zB zB ?_ ?_ ?_
 iterate 2 (case _=>(first|exact yU BJ5|refine yR BJ5 ?_))
 repeat (first|refine zR BJ6 ?_|exact zU BJ6)
 refine Zab [(2006,1)] 4000 hA zB zB ?_ ?_ ?_
 iterate 2 (case _=>(first|exact yU @rdR.eq_1|refine yR @rdR.eq_1 ?_))
 repeat (first|refine zR (ja2 @rdR.eq_1 @ew) ?_|exact zU (ja2 @rdR.eq_1 @ew))
theorem Zxn [Tabs Tryz.prog] (nm:ByteArray) (hn:nm.data.toList.length≤200) (hz:Lib.indexByte nm.data.toList 0<0) (mt:Nat) (hm:mt<4294967296) (nl:Bool) (b:List UInt8) (hb:b.length≤1000000) (how:Int) (K:List UInt8) (hK:K.length≤1000000)
  (hD:Con Tryz.prog ZcC [.sl nl none (b.map u8),int how] (.tup [.sl false none (K.map u8),int 0])) :
  Con Tryz.prog Zjc [mbA nm mt nl b,int how] (.tup [.sl false none ((hdB nm.data.toList mt++(K++tlB b)).map u8),int 0]):=by
 obtain ⟨n,hn'⟩:∃ n,n=(hdB nm.data.toList mt++(K++tlB b)).length:=⟨_,rfl⟩
 have h:=Zxl nm hn hz mt hm nl b hb how K hK hD n hn'
 refine h.con _ ?_ ?_
 ·have ht:((hdB nm.data.toList mt++(K++tlB b)).map u8).take n=(hdB nm.data.toList mt++(K++tlB b)).map u8:=List.take_of_length_le (by simp only [List.length_map];omega)
  have hl:n≤((hdB nm.data.toList mt++(K++tlB b)).map u8).length:=by simp only [List.length_map];omega
  obtain ⟨X,hX⟩:∃ X,X=hdB nm.data.toList mt++(K++tlB b):=⟨_,rfl⟩
  rw [←hX] at ht hl ⊢
  rw [List.length_map] at hl
  (first|exact vU (ja3 @ht @hl @List.length_map.{0,0})|refine vR (ja3 @ht @hl @List.length_map.{0,0}) ?_)
 ·simp only [AV.free,AV.free.freeL,Zag,int,Bool.and_self]
theorem Zep {x:AV}:eqB x x=true:=ZzL rfl
theorem ZiE {a e:Int} (ha:0≤a) (ha':a≤1000000000) (he:0≤e) (he':e≤1000000000):ZgI (.agg #[.string ⟨#[]⟩,.int .i64 0,.int .i64 0]) (.agg [.sc (.string ⟨#[]⟩),.sc (.int .i64 a),.sc (.int .i64 e)])=True:=by
 have k1:IntKind.i64.min=-9223372036854775808:=rfl
 have k2:IntKind.i64.max=9223372036854775807:=rfl
 refine eq_true ?_
 simp only [ZgI,Zo2,Znb,k1,k2,and_true,true_and]
 refine ⟨by decide,by omega,by omega⟩
theorem aw6:hdB [110] 1++(stL [97]++tlB [97])=[31,139,8,8,1,0,0,0,0,3,110,0,1,1,0,254,255,97,67,190,183,232,1,0,0,0]:=by decide +kernel
set_option maxHeartbeats 1000000 in
theorem ZoV [Tabs Tryz.prog]:Con Tryz.prog ZeS [] (boo true):=by
 refine Con.of' mix Tryz.func9 rfl Tryz.ntmps9 ZiG ZiH zB rfl rfl ?_
 unfold ZeW
 have p1:=Zxn ⟨#[110]⟩ (by decide) (by decide) 1 zO false [97] (by decide) 0 (stL [97]) (by decide) (Zxa false [97] (by decide))
 have hI:=Zxm [97] (tlB [97]) (by decide) (by rw [ZrZ];omega) 10 zO (by decide)
 rw [←ZrY (by decide)] at hI
 have p2:=ZoN [110] (by decide) (by decide) 1 zO (stL [97]++tlB [97]) _ aw6.symm (by decide) (by rw [ZrY (by decide),List.length_append,Zcx,ZrZ];decide) 10 zO _ [97] (by decide) _ hI (by rw [ZrY (by decide),List.length_append,Zcx,ZrZ]) (by decide +kernel)
 rw [show (⟨#[110]⟩:ByteArray).data.toList=[110] from rfl,aw6] at p1
 obtain ⟨B,hB⟩:∃ B:List UInt8,B=[31,139,8,8,1,0,0,0,0,3,110,0,1,1,0,254,255,97,67,190,183,232,1,0,0,0]:=⟨_,rfl⟩
 rw [←hB] at p1 p2
 have hBl:B.length=26:=by rw [hB];rfl
 have hB12:((B.take 12).map u8).map Zqk=[31,139,8,8,1,0,0,0,0,3,110,0]:=by rw [hB];decide
 have e1:([97]:List UInt8).map u8=[.sc (.int .u8 97)]:=rfl
 have u1:Zqk (AV.sc (.int .u8 97))=97:=rfl
 have lk:=ZiE (a:=0) (e:=0) zO zO zO zO
 simp only [mbA,e1] at p1 p2
 repeat (first|refine xS ?_|exact xT)
 refine Zaq _ (.inl ⟨rfl,p1⟩) ?_
 repeat (first|refine xS ?_|exact xT)
 refine Zaq _ (.inl ⟨by simp only [AV.free,AV.free.freeL,Zag,Bool.and_self],p2⟩) ?_
 repeat (first|refine xR (ja6 @lk @Zep @hBl @hB12 @List.length_map.{0,0} @u1) ?_|exact xU (ja6 @lk @Zep @hBl @hB12 @List.length_map.{0,0} @u1))
 refine ⟨by rw [hB];rfl,?_⟩
 repeat (first|refine xS ?_|exact xT)
theorem ZoW {P:Program} {w:World} {n:String} {d:DataW Unit}:∀ {l:List (String × DataW Unit)} {ps:List MemPlace},DataW.LaidVars P w l ps→(n,d)∈l →
  ∃ g t cs fuel p,P.globalNamed n=some g∧(P.globals[g]?).map (·.type)=some t∧w.var? P n=some cs∧DataW.trod (fun _=>()) P w 0 (fun _=>true) false fuel t cs.toList=some (d,p)
 | [],_,_,hm=>by simp at hm
 | (n',d')::r,ps,h,hm=>by
  obtain ⟨g,t,cs,fuel,p,q,h1,h2,h3,h4,h5,_⟩:=h
  rcases List.mem_cons.1 hm with e | hm
  ·cases e;exact ⟨g,t,cs,fuel,p,h1,h2,h3,h4⟩
  ·exact ZoW h5 hm
theorem ZC3 {P:Program} {W:World} {n:String} {g:Nat} {cs:Array Value} (hg:P.globalNamed n=some g) (zs:List Value) (h3:W.var? P n=some cs) (hz:cs.toList=zs) (h1:∀ v∈zs,v.oneCell'=true) :
  (all W).S g∧AV.free.freeL (zs.map AV.sc)=true∧∃ (cs:List Value) (E:TypeId) (fr:Nat × Nat),RdL ⟨(all W).S,fun _ _=>none⟩ W (zs.map AV.sc) cs∧W.heap[g]? = some (Obj.cells cs.toArray E fr)∧∀ v∈cs,v.oneCell'=true:=by
 unfold World.var? at h3
 rw [hg,Option.bind_some] at h3
 split at h3
 ·rename_i cs' E fr hheap
  simp only [Option.some.injEq] at h3
  subst h3
  exact ⟨ZgL hheap,Zv6 _,zs,E,fr,ZeR _,by rw [hheap,←hz],h1⟩
 ·simp at h3
theorem Zqh (l:List Nat):l.map nA=(l.map fun x:Nat=>Value.int .i64 (x:Int)).map AV.sc:=by simp only [List.map_map];rfl
theorem ZDo:(Rows.laid_drayage_inflate_tellers:DataW Unit)=Lib.tabData .i64 (Zim.map fun x:Nat=>(x:Int)):=by kernel_rfl
theorem ZDp:(Rows.laid_drayage_deflate_tellers:DataW Unit)=Lib.tabData .i64 (Zim.map fun x:Nat=>(x:Int)):=by kernel_rfl
theorem ZC4:Tryz.prog.globalNamed "drayage/inflate.tellers" = some 1:=by kernel_rfl
theorem ZC5:Tryz.prog.globalNamed "drayage/deflate.tellers" = some 0:=by kernel_rfl
theorem ZDA:(Tryz.prog.globals[1]?).map (·.type)=some 148:=by kernel_rfl
theorem ZDB:(Tryz.prog.globals[0]?).map (·.type)=some 148:=by kernel_rfl
@[reducible] def Zkt:Tabs Tryz.prog:=⟨fun g=>if g=1 then some (Zim.map nA) else if g=0 then some (Zim.map nA) else none⟩
theorem Zzm:@Tabs.tab Tryz.prog Zkt 1=some (Zim.map nA):=rfl
theorem Zxo (W:World) (h:laidMetH Tryz.prog [("drayage/deflate.tellers",Rows.laid_drayage_deflate_tellers),("drayage/inflate.tellers",Rows.laid_drayage_inflate_tellers)] W):@TabOk Tryz.prog Zkt (all W).S W:=by
 rw [MakeChecks.laidMetH_plain _ _ _ (by kernel_rfl)] at h
 obtain ⟨ps,h,_⟩:=h
 obtain ⟨g1,t1,cs1,fuel1,p1,a1,b1,c1,d1⟩:=ZoW (n := "drayage/inflate.tellers") (d:=Rows.laid_drayage_inflate_tellers) h zB
 obtain ⟨g2,t2,cs2,fuel2,p2,a2,b2,c2,d2⟩:=ZoW (n := "drayage/deflate.tellers") (d:=Rows.laid_drayage_deflate_tellers) h zB
 obtain rfl:=Option.some.inj (ZC4.symm.trans a1)
 obtain rfl:=Option.some.inj (ZDA.symm.trans b1)
 obtain rfl:=Option.some.inj (ZC5.symm.trans a2)
 obtain rfl:=Option.some.inj (ZDB.symm.trans b2)
 rw [ZDo] at d1
 rw [ZDp] at d2
 have e1:=Lib.cells_of_tab Tryz.underlying148 Tryz.underlying3 (by kernel_rfl) (by kernel_rfl) d1
 have e2:=Lib.cells_of_tab Tryz.underlying148 Tryz.underlying3 (by kernel_rfl) (by kernel_rfl) d2
 intro g xs hg
 simp only [Zkt,Tabs.tab] at hg
 split at hg
 ·rename_i e
  subst e
  cases hg
  rw [Zqh]
  refine ZC3 ZC4 _ c1 (e1.trans (by rw [List.map_map];rfl)) ?_
  intro v hv
  obtain ⟨z,_,rfl⟩:=List.mem_map.1 hv
  rfl
 split at hg
 ·rename_i e
  subst e
  cases hg
  rw [Zqh]
  refine ZC3 ZC5 _ c2 (e2.trans (by rw [List.map_map];rfl)) ?_
  intro v hv
  obtain ⟨z,_,rfl⟩:=List.mem_map.1 hv
  rfl
 ·simp at hg
theorem ZDq {b:List UInt8} {f i:Nat}:(tS1 b f i).2≤10:=by
 unfold tS1
 repeat' split
 all_goals simp
theorem ZDr {b:List UInt8} {f:Nat} {p:Nat × Nat} (h:p.2≤10):(tS2 b f p).2.2≤10:=by
 unfold tS2
 repeat' split
 all_goals (first|exact h | simp)
theorem ZDs {b:List UInt8} {f:Nat} {p:Nat × Nat} (h:p.2≤10):(tS3 b f p).2≤10:=by
 unfold tS3
 repeat' split
 all_goals (first|exact h | simp)
theorem ZDt {b:List UInt8} {f:Nat} {p:Nat × Nat} (h:p.2≤10):(tS4 b f p).2≤10:=by
 unfold tS4
 repeat' split
 all_goals (first|exact h | simp)
 all_goals (split <;> simp)
theorem ZBy {b:List UInt8} {f i:Nat}:(ZhW b f i).2.2≤10:=ZDt (ZDs (ZDr ZDq))
theorem ZC6 {a b c d:UInt8}:hdE a b c d≤14:=by
 unfold hdE
 repeat' split
 all_goals simp
theorem ZC7 {b:List UInt8} {room F:Nat}:(Zkw b room F).1≤14:=by
 unfold Zkw
 split
 ·split
  ·simp [noR]
  split
  ·exact ZC6
  unfold ZBw
  split
  ·exact Nat.le_trans ZBy zO
  split
  ·rename_i c
   rcases ZiD (b:=List.drop _ _) (m:=room) (F:=F) with ⟨e,hi,-,h10⟩ | ⟨o,j,-,hi,-⟩
   ·rw [hi] at c ⊢
    simp only [noR] at c ⊢
    omega
   ·rw [hi] at c
    exact absurd rfl c
  split
  ·simp [noR]
  split
  ·simp
  ·simp [noR]
 ·simp [noR]
theorem Zxp {b:List UInt8} {F:Nat}:∀ {f a room:Nat} {ms:List Mb},a≤b.length→(ZuM b F f a room ms).1≤99∧(ZuM b F f a room ms).2.1≤b.length∧(ZuM b F f a room ms).2.2.length≤ms.length+(b.length-a)+1
 | 0,a,room,ms,ha=>by simp [ZuM]
 | f+1,a,room,ms,ha=>by
  rw [ZuM]
  have he:=ZC7 (b:=b.drop a) (room:=room) (F:=F)
  have hok:=ZrV (b:=b.drop a) (room:=room) (F:=F)
  obtain ⟨r,hr⟩:∃ r,r=Zkw (b.drop a) room F:=⟨_,rfl⟩
  rw [←hr] at he hok ⊢
  rw [List.length_drop] at hok
  split
  ·simp only [List.length_nil]
   omega
  ·rename_i c
   obtain ⟨o1,o2,o3,o4⟩:=hok (by simpa using c)
   split
   ·rename_i c2
    have:=Zxp (b:=b) (F:=F) (f:=f) (a:=a+r.2.2.2.2) (room:=room-r.2.2.2.1.length) (ms:=ms++[(r.2.1,r.2.2.1,r.2.2.2.1,[])]) zO
    rw [List.length_append] at this
    simp only [List.length_cons,List.length_nil] at this
    omega
   ·simp only [List.length_append,List.length_cons,List.length_nil]
    omega
def mbX (m:Mb):Mx:=(m.1,(m.2.1:Int),nl0 m.2.2.1.length,m.2.2.1)
theorem ZDu {l:List Mb}:(l.map mbX).map mxV=l.map mbV:=by rw [List.map_map];rfl
set_option maxHeartbeats 1000000 in
theorem ZlO [Tabs Tryz.prog] (ht:Tabs.tab Tryz.prog 1=some (Zim.map nA)) (nl:Bool) (b:List UInt8) (hb:b.length≤maxLen) (hn:nl=true→b=[]) (most:Int) :
  Con Tryz.prog ZcI [.sl nl none (b.map u8),int most] (boo true):=by
 refine Con.of' mix Tryz.func4 rfl Tryz.ntmps4 Zgb Zgc zB (by simp only [AV.free,AV.free.freeL,Zag,int,Bool.and_self]) rfl ?_
 unfold ZcP
 repeat (first|refine xS ?_|exact xT)
 refine Zaq _ (.inl ⟨rfl,ZoV⟩) ?_
 by_cases c1:400<b.length
 ·have d1:decide ((400:Int)<(b.length:Int))=true:=decide_eq_true zO
  repeat (first|refine xR (ja2 @d1 @List.length_map.{0,0}) ?_|exact xU (ja2 @d1 @List.length_map.{0,0}))
 have d1:decide ((400:Int)<(b.length:Int))=false:=decide_eq_false zO
 have fb:AV.free.freeL [.sl nl none (b.map u8),int most]=true:=by simp only [AV.free,AV.free.freeL,Zag,int,Bool.and_self]
 by_cases c2:5000<most∧most≤16777216
 ·have d2:=decide_eq_true c2.1
  have d3:=decide_eq_true c2.2
  repeat (first|refine xR (ja4 @d1 @d2 @d3 @List.length_map.{0,0}) ?_|exact xU (ja4 @d1 @d2 @d3 @List.length_map.{0,0}))
 have hd:decide (5000<most)=false∨(decide (5000<most)=true∧decide (most≤16777216)=false):=by
  by_cases h:5000<most
  ·exact .inr ⟨decide_eq_true h,decide_eq_false (fun h'=>c2 ⟨h,h'⟩)⟩
  ·exact .inl (decide_eq_false h)
 by_cases c3:most<0∨16777216<most
 ·have q1:=ZoT nl b most c3
  have q2:=Zna nl b most c3
  have lk:=ZiE (a:=0) (e:=1) zO zO zO zO
  rcases hd with d2 | ⟨d2,d3⟩
  ·repeat (first|refine xR (ja3 @d1 @d2 @List.length_map.{0,0}) ?_|exact xU (ja3 @d1 @d2 @List.length_map.{0,0}))
   refine Zaq _ (.inl ⟨fb,q1⟩) ?_
   repeat (first|refine xS ?_|exact xT)
   refine Zaq _ (.inl ⟨fb,q2⟩) ?_
   repeat (first|refine xS ?_|exact xT)
   refine Zaq _ (.inl ⟨rfl,Zir⟩) ?_
   repeat (first|refine xR (ja2 @lk @Zep) ?_|exact xU (ja2 @lk @Zep))
  ·repeat (first|refine xR (ja4 @d1 @d2 @d3 @List.length_map.{0,0}) ?_|exact xU (ja4 @d1 @d2 @d3 @List.length_map.{0,0}))
   refine Zaq _ (.inl ⟨fb,q1⟩) ?_
   repeat (first|refine xS ?_|exact xT)
   refine Zaq _ (.inl ⟨fb,q2⟩) ?_
   repeat (first|refine xS ?_|exact xT)
   refine Zaq _ (.inl ⟨rfl,Zir⟩) ?_
   repeat (first|refine xR (ja2 @lk @Zep) ?_|exact xU (ja2 @lk @Zep))
 have d2:decide (5000<most)=false:=decide_eq_false zO
 obtain ⟨room,rfl⟩:∃ room:Nat,most=room:=⟨most.toNat,by omega⟩
 have q1:=ZrW ht nl b zO hn room zO 9000000 zO 5000 zO _ rfl
 have q2:=Zqg nl b zO room zO 9000000 zO 5000 zO _ rfl
 have hle:=Zxp (b:=b) (F:=9000000) (f:=5000) (a:=0) (room:=room) (ms:=[]) (Nat.zero_le _)
 obtain ⟨R,hR⟩:∃ R,R=ZuM b 9000000 5000 0 room []:=⟨_,rfl⟩
 rw [←hR] at q1 q2 hle
 obtain ⟨e,a,ms⟩:=R
 simp only [List.length_nil] at hle
 clear hR
 by_cases ce:e=0
 ·subst ce
  rw [Zxj,if_pos rfl] at q1 q2
  simp only at q1 q2
  have q3:=ZuE false false (ms.map mbX) (ms.map mbX) rfl (by rw [List.length_map];omega)
  rw [ZDu] at q3
  have fm:AV.free.freeL [.sl false (some 3) (ms.map mbV),.sl false (some 3) (ms.map mbV)]=true:=by simp only [AV.free,AV.free.freeL,ZsF,Bool.and_self]
  have lk:=ZiE (a:=0) (e:=0) zO zO zO zO
  repeat (first|refine xR (ja3 @d1 @d2 @List.length_map.{0,0}) ?_|exact xU (ja3 @d1 @d2 @List.length_map.{0,0}))
  refine Zaq _ (.inl ⟨fb,q1⟩) ?_
  repeat (first|refine xS ?_|exact xT)
  refine Zaq _ (.inl ⟨fb,q2⟩) ?_
  repeat (first|refine xS ?_|exact xT)
  refine Zaq _ (.inl ⟨fm,q3⟩) ?_
  repeat (first|refine xR (ja2 @lk @Zep) ?_|exact xU (ja2 @lk @Zep))
 ·rw [Zxj,if_neg ce] at q1 q2
  simp only at q1 q2
  have lk:=ZiE (a:=(a:Int)) (e:=(e:Int)) zO zO zO zO
  repeat (first|refine xR (ja3 @d1 @d2 @List.length_map.{0,0}) ?_|exact xU (ja3 @d1 @d2 @List.length_map.{0,0}))
  refine Zaq _ (.inl ⟨fb,q1⟩) ?_
  repeat (first|refine xS ?_|exact xT)
  refine Zaq _ (.inl ⟨fb,q2⟩) ?_
  repeat (first|refine xS ?_|exact xT)
  refine Zaq _ (.inl ⟨rfl,Zir⟩) ?_
  repeat (first|refine xR (ja2 @lk @Zep) ?_|exact xU (ja2 @lk @Zep))
@[reducible] def ZeP:Tabs Tryz.prog:=Zkt
theorem Zk9 (W:World) (h:laidMetH Tryz.prog Rows.gzipUnpacksRow.laid W):@TabOk Tryz.prog ZeP (all W).S W:=Zxo W h
theorem ZmQ (nl:Bool) (b:List UInt8) (hb:b.length≤maxLen) (hn:nl=true→b=[]) (most:Int) (h3:IntKind.i64.min≤most) (h4:most≤IntKind.i64.max) :
  @Con Tryz.prog ZeP ZcI [.sl nl none (b.map u8),int most] (boo true) :=
 @ZlO Zkt Zzm nl b hb hn most
end Go.Proofs.YtfplkgciebjehabGreatDoor.Aw
