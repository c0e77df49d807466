/- Parts of the proof of GzipUnpacks. -/
import Derived.Test.YtfplkgciebjehabGreatDoorQGzipUnpacksBD
namespace Go.Proofs.YtfplkgciebjehabGreatDoor.Aw
open Go
set_option maxRecDepth 100000
set_option linter.unusedSimpArgs false
set_option linter.unusedVariables false
def wt (n:Nat):Nat:=if n=0 then 0 else 32768 / 2^n
def Zas:List Nat→Nat
 | []=>0
 | n::r=>wt n+Zas r
theorem ZpL {a b:List Nat}:Zas (a++b)=Zas a+Zas b:=by
 induction a with
 | nil=>simp [Zas]
 | cons x a ih=>simp only [List.cons_append,Zas,ih];omega
theorem ZAW {n:Nat}:wt n≤32768:=by
 unfold wt;split
 ·omega
 ·exact Nat.div_le_self _ _
theorem ZyL {l:List Nat}:Zas l≤32768*l.length:=by
 induction l with
 | nil=>simp [Zas]
 | cons x l ih=>simp only [Zas,List.length_cons];have:=ZAW (n:=x);omega
theorem ZnD {l:List Nat} {k:Nat} (h:k<l.length):Zas (l.take (k+1))=Zas (l.take k)+wt (l.getD k 0):=by
 rw [Zm0 (d:=0) h,ZpL];simp [Zas]
theorem Zki {l:List Nat} {k:Nat}:Zas (l.take k)≤32768*l.length:=by
 refine Nat.le_trans ZyL (Nat.mul_le_mul_left _ ?_)
 rw [List.length_take];omega
theorem Zik [Tabs Tryz.prog] (nl:Bool) (l:List Nat) (hl:l.length≤1000) (h15:∀ x∈l,x≤15):Con Tryz.prog Zgj [.sl nl none (l.map nA)] (int (Zas l:Nat)):=by
 refine Con.of' mix Tryz.func126 rfl Tryz.ntmps126 ZpB ZpC zB (by simp only [AV.free,AV.free.freeL,Zaj,Bool.and_self]) rfl ?_
 unfold Zlm
 repeat (first|refine zS ?_|exact zT)
 refine SWp.loop (α:=Nat) (fun k=>mk 20 0 [(3,int (Zas (l.take k):Nat)),(6,.sl nl none (l.map nA)),(7,int l.length),(8,int k)] [])
  (fun k=>k≤l.length) (fun k=>l.length-k) 0 (Nat.zero_le _) (Zal rfl ?_ ?_ ?_) ?_
 ·exact Nat.le_refl _
 iterate 2 (case _=>(first|exact yU (ja3 @List.take_zero.{0} @Zas.eq_1 @Zas.eq_2)|refine yR (ja3 @List.take_zero.{0} @Zas.eq_1 @Zas.eq_2) ?_))
 rintro k hk -
 repeat (first|refine zS ?_|exact zT)
 refine SWp.cond rfl (fun h=>?_) (fun h=>?_)
 ·simp only [decide_eq_true_eq] at h
  have hkl:k<l.length:=zO
  have hs:=ZnD hkl
  have hle:=Zki (l:=l) (k:=k)
  have hx15:l.getD k 0≤15:=by
   have:l.getD k 0=l[k]:=by simp [List.getD,List.getElem?_eq_getElem hkl]
   rw [this];exact h15 _ (List.getElem_mem hkl)
  obtain ⟨x,hx⟩:∃ x,x=l.getD k 0:=⟨_,rfl⟩
  rw [←hx] at hs hx15
  obtain ⟨y,hy⟩:∃ y,y=Zas (l.take k):=⟨_,rfl⟩
  rw [←hy] at hs hle
  by_cases c0:x=0
  ·subst c0
   have e:Zas (l.take (k+1))=y:=by rw [hs];simp [wt]
   repeat (first|refine zR (ja3 iR hx.symm hy.symm) ?_|exact zU (ja3 iR hx.symm hy.symm))
   refine At.of (k+1) zO zO rfl rfl (Nat.le_refl _) ?_ ?_
   iterate 2 (case _=>(first|exact yU @e|refine yR @e ?_))
  ·have d0:decide ((0:Int)<(x:Int))=true:=decide_eq_true zO
   have hw:wt x=32768 / 2^x:=by simp [wt,c0]
   have hw2:=ZAW (n:=x)
   obtain ⟨z,hz⟩:∃ z,z=32768 / 2^x:=⟨_,rfl⟩
   rw [←hz] at hw
   rw [hw] at hw2
   have e:Zas (l.take (k+1))=y+z:=by rw [hs,hw]
   repeat (first|refine zR (ja5 iR hx.symm hy.symm @d0 hz.symm) ?_|exact zU (ja5 iR hx.symm hy.symm @d0 hz.symm))
   refine At.of (k+1) zO zO rfl rfl (Nat.le_refl _) ?_ ?_
   iterate 2 (case _=>(first|exact yU @e|refine yR @e ?_))
 ·simp only [decide_eq_false_iff_not] at h
  obtain rfl:k=l.length:=zO
  repeat (first|refine zR @List.take_length.{0} ?_|exact zU @List.take_length.{0})
theorem ZmB [Tabs Tryz.prog] (nl:Bool) (l:List Nat) (hl:l.length≤1000) (h15:∀ x∈l,x≤15):Con Tryz.prog ZcV [.sl nl none (l.map nA)] (int (Zas l:Nat)):=by
 refine Con.of' mix Tryz.func99 rfl Tryz.ntmps99 ZiU ZiV zB (by simp only [AV.free,AV.free.freeL,Zaj,Bool.and_self]) rfl ?_
 unfold Ze3
 repeat (first|refine zS ?_|exact zT)
 refine SWp.loop (α:=Nat) (fun k=>mk 32 0 [(0,.sl nl none (l.map nA)),(3,int (Zas (l.take k):Nat)),(4,int k)] [])
  (fun k=>k≤l.length) (fun k=>l.length-k) 0 (Nat.zero_le _) (Zal rfl ?_ ?_ ?_) ?_
 ·exact Nat.le_refl _
 iterate 2 (case _=>(first|exact yU (ja3 @List.take_zero.{0} @Zas.eq_1 @Zas.eq_2)|refine yR (ja3 @List.take_zero.{0} @Zas.eq_1 @Zas.eq_2) ?_))
 rintro k hk -
 repeat (first|refine zS ?_|exact zT)
 refine SWp.cond rfl (fun h=>?_) (fun h=>?_)
 ·simp only [decide_eq_true_eq] at h
  have hkl:k<l.length:=zO
  have hs:=ZnD hkl
  have hle:=Zki (l:=l) (k:=k)
  have hx15:l.getD k 0≤15:=by
   have:l.getD k 0=l[k]:=by simp [List.getD,List.getElem?_eq_getElem hkl]
   rw [this];exact h15 _ (List.getElem_mem hkl)
  obtain ⟨x,hx⟩:∃ x,x=l.getD k 0:=⟨_,rfl⟩
  rw [←hx] at hs hx15
  obtain ⟨y,hy⟩:∃ y,y=Zas (l.take k):=⟨_,rfl⟩
  rw [←hy] at hs hle
  by_cases c0:x=0
  ·subst c0
   have e:Zas (l.take (k+1))=y:=by rw [hs];simp [wt]
   repeat (first|refine zR (ja3 iR hx.symm hy.symm) ?_|exact zU (ja3 iR hx.symm hy.symm))
   refine At.of (k+1) zO zO rfl rfl (Nat.le_refl _) ?_ ?_
   iterate 2 (case _=>(first|exact yU @e|refine yR @e ?_))
  ·have d0:decide ((0:Int)<(x:Int))=true:=decide_eq_true zO
   have hw:wt x=32768 / 2^x:=by simp [wt,c0]
   have hw2:=ZAW (n:=x)
   repeat (first|refine zR (ja4 iR hx.symm hy.symm @d0) ?_|exact zU (ja4 iR hx.symm hy.symm @d0))
   refine SWp.loop (α:=Nat) (fun j=>mk 32 0 [(0,.sl nl none (l.map nA)),(3,int (y:Nat)),(4,int k),(5,int (32768 / 2^j:Nat)),(6,int j)] [])
    (fun j=>j≤x) (fun j=>x-j) 0 (Nat.zero_le _) (Zal rfl ?_ ?_ ?_) ?_
   ·exact Nat.le_refl _
   iterate 2 (case _=>(first|exact yU (ja2 @Nat.pow_zero hy.symm)|refine yR (ja2 @Nat.pow_zero hy.symm) ?_))
   rintro j hj -
   have hz2:32768 / 2^j≤32768:=Nat.div_le_self _ _
   have hz3:32768 / 2^j / 2=32768 / 2^(j+1):=by rw [Nat.div_div_eq_div_mul,Nat.pow_succ]
   obtain ⟨z,hz⟩:∃ z,z=32768 / 2^j:=⟨_,rfl⟩
   rw [←hz] at hz2 hz3 ⊢
   repeat (first|refine zR (ja2 iR hx.symm) ?_|exact zU (ja2 iR hx.symm))
   refine SWp.cond rfl (fun h=>?_) (fun h=>?_)
   ·simp only [decide_eq_true_eq] at h
    repeat (first|refine zS ?_|exact zT)
    refine At.of (j+1) zO zO rfl rfl (Nat.le_refl _) ?_ ?_
    iterate 2 (case _=>(first|exact yU @hz3|refine yR @hz3 ?_))
   ·simp only [decide_eq_false_iff_not] at h
    obtain rfl:j=x:=zO
    rw [←hz] at hw
    rw [hw] at hw2 hs
    repeat (first|refine zS ?_|exact zT)
    refine At.of (k+1) zO zO rfl rfl (Nat.le_refl _) ?_ ?_
    iterate 2 (case _=>(first|exact yU @hs|refine yR @hs ?_))
 ·simp only [decide_eq_false_iff_not] at h
  obtain rfl:k=l.length:=zO
  repeat (first|refine zR @List.take_length.{0} ?_|exact zU @List.take_length.{0})
def Zrq (x:Int):Bool:=decide (0≤x∧x≤15)
def chk (l:List Int):Nat:=if 320<l.length then 4 else if l.all Zrq=false then 1 else if 32768<Zas (l.map Int.toNat) then 3 else 0
theorem ZpM {l:List Int} {p:Int→Bool} {k:Nat} (hk:k<l.length) (h:(l.take k).all p=true):(l.take (k+1)).all p=p (l.getD k 0):=by
 rw [Zm0 (d:=0) hk,List.all_append,h];simp
theorem Zsi {l:List Int} {p:Int→Bool} {k:Nat} (hk:k<l.length) (h:p (l.getD k 0)=false):l.all p=false:=by
 rw [List.all_eq_false]
 refine ⟨l[k],List.getElem_mem hk,?_⟩
 simp [List.getD,List.getElem?_eq_getElem hk] at h
 simp [h]
theorem ZnE {l:List Int} (h:l.all Zrq=true):l.map int=(l.map Int.toNat).map nA∧∀ x∈l.map Int.toNat,x≤15:=by
 have h2:∀ x∈l,0≤x∧x≤15:=fun x hx=>of_decide_eq_true (List.all_eq_true.1 h x hx)
 constructor
 ·rw [List.map_map]
  refine List.map_congr_left fun x hx=>?_
  have:=h2 x hx
  show AV.sc (.int .i64 x)=AV.sc (.int .i64 ((x.toNat:Nat):Int))
  rw [Int.toNat_of_nonneg this.1]
 ·intro y hy
  obtain ⟨x,hx,rfl⟩:=List.mem_map.1 hy
  have:=h2 x hx
  omega
theorem Zlo [Tabs Tryz.prog] (nl:Bool) (l:List Int) (hl:l.length≤1000):Con Tryz.prog Zh7 [.sl nl none (l.map int)] (int (chk l:Nat)):=by
 refine Con.of' mix Tryz.func124 rfl Tryz.ntmps124 Zpz ZpA zB (by simp only [AV.free,AV.free.freeL,ZfZ,Bool.and_self]) rfl ?_
 unfold Zll
 by_cases c1:320<l.length
 ·have d1:decide ((320:Int)<(l.length:Int))=true:=decide_eq_true zO
  have hc:chk l=4:=if_pos c1
  repeat (first|refine zR (ja2 @d1 @hc) ?_|exact zU (ja2 @d1 @hc))
 have d1:decide ((320:Int)<(l.length:Int))=false:=decide_eq_false zO
 repeat (first|refine zR @d1 ?_|exact zU @d1)
 refine SWp.loop (α:=Nat) (fun k=>mk 24 0 [(0,.sl nl none (l.map int)),(8,.sl nl none (l.map int)),(9,int l.length),(10,int k)] [])
  (fun k=>k≤l.length∧(l.take k).all Zrq=true) (fun k=>l.length-k) 0 ⟨Nat.zero_le _,by simp⟩ (Zal rfl ?_ ?_ ?_) ?_
 ·exact Nat.le_refl _
 iterate 2 (case _=>(first|exact yT|refine yS ?_))
 rintro k ⟨hk,ha⟩ -
 repeat (first|refine zS ?_|exact zT)
 refine SWp.cond rfl (fun h=>?_) (fun h=>?_)
 ·simp only [decide_eq_true_eq] at h
  have hkl:k<l.length:=zO
  have hs:=ZpM hkl ha
  have hbad:=Zsi (p:=Zrq) hkl
  obtain ⟨x,hx⟩:∃ x,x=l.getD k 0:=⟨_,rfl⟩
  rw [←hx] at hs hbad
  by_cases c2:x<0
  ·have d2:=decide_eq_true c2
   have hc:chk l=1:=by unfold chk;rw [if_neg c1,if_pos (hbad (decide_eq_false zO))]
   repeat (first|refine zR (ja4 iR hx.symm @d2 @hc) ?_|exact zU (ja4 iR hx.symm @d2 @hc))
  have d2:=decide_eq_false c2
  by_cases c3:15<x
  ·have d3:=decide_eq_true c3
   have hc:chk l=1:=by unfold chk;rw [if_neg c1,if_pos (hbad (decide_eq_false zO))]
   repeat (first|refine zR (ja5 iR hx.symm @d2 @d3 @hc) ?_|exact zU (ja5 iR hx.symm @d2 @d3 @hc))
  have d3:=decide_eq_false c3
  repeat (first|refine zR (ja4 iR hx.symm @d2 @d3) ?_|exact zU (ja4 iR hx.symm @d2 @d3))
  refine At.of (k+1) ⟨by omega,by rw [hs];exact decide_eq_true zO⟩ zO rfl rfl (Nat.le_refl _) ?_ ?_
  iterate 2 (case _=>(first|exact yT|refine yS ?_))
 ·simp only [decide_eq_false_iff_not] at h
  obtain rfl:k=l.length:=zO
  rw [List.take_length] at ha
  obtain ⟨hm,h15⟩:=ZnE ha
  have ht:=Zik nl (l.map Int.toNat) (by rw [List.length_map];exact hl) h15
  rw [←hm] at ht
  repeat (first|refine zS ?_|exact zT)
  refine Zaq _ (.inl ⟨by simp only [AV.free,AV.free.freeL,ZfZ,Bool.and_self],ht⟩) ?_
  by_cases c4:32768<Zas (l.map Int.toNat)
  ·have d4:decide ((32768:Int)<(Zas (l.map Int.toNat):Nat))=true:=decide_eq_true zO
   have hc:chk l=3:=by unfold chk;rw [if_neg c1,if_neg (by rw [ha];simp),if_pos c4]
   repeat (first|refine zR (ja2 @d4 @hc) ?_|exact zU (ja2 @d4 @hc))
  ·have d4:decide ((32768:Int)<(Zas (l.map Int.toNat):Nat))=false:=decide_eq_false zO
   have hc:chk l=0:=by unfold chk;rw [if_neg c1,if_neg (by rw [ha];simp),if_neg c4]
   repeat (first|refine zR (ja2 @d4 @hc) ?_|exact zU (ja2 @d4 @hc))
theorem ZmC [Tabs Tryz.prog] (nl:Bool) (l:List Int) (hl:l.length≤1000):Con Tryz.prog ZcT [.sl nl none (l.map int)] (int (chk l:Nat)):=by
 refine Con.of' mix Tryz.func98 rfl Tryz.ntmps98 ZiS ZiT zB (by simp only [AV.free,AV.free.freeL,ZfZ,Bool.and_self]) rfl ?_
 unfold Ze2
 by_cases c1:320<l.length
 ·have d1:decide ((320:Int)<(l.length:Int))=true:=decide_eq_true zO
  have hc:chk l=4:=if_pos c1
  repeat (first|refine zR (ja2 @d1 @hc) ?_|exact zU (ja2 @d1 @hc))
 have d1:decide ((320:Int)<(l.length:Int))=false:=decide_eq_false zO
 repeat (first|refine zR @d1 ?_|exact zU @d1)
 refine SWp.loop (α:=Nat) (fun k=>mk 28 0 [(0,.sl nl none (l.map int)),(3,int k)] [])
  (fun k=>k≤l.length∧(l.take k).all Zrq=true) (fun k=>l.length-k) 0 ⟨Nat.zero_le _,by simp⟩ (Zal rfl ?_ ?_ ?_) ?_
 ·exact Nat.le_refl _
 iterate 2 (case _=>(first|exact yT|refine yS ?_))
 rintro k ⟨hk,ha⟩ -
 repeat (first|refine zS ?_|exact zT)
 refine SWp.cond rfl (fun h=>?_) (fun h=>?_)
 ·simp only [decide_eq_true_eq] at h
  have hkl:k<l.length:=zO
  have hs:=ZpM hkl ha
  have hbad:=Zsi (p:=Zrq) hkl
  obtain ⟨x,hx⟩:∃ x,x=l.getD k 0:=⟨_,rfl⟩
  rw [←hx] at hs hbad
  by_cases c2:x<0
  ·have d2:=decide_eq_true c2
   have hc:chk l=1:=by unfold chk;rw [if_neg c1,if_pos (hbad (decide_eq_false zO))]
   repeat (first|refine zR (ja4 iR hx.symm @d2 @hc) ?_|exact zU (ja4 iR hx.symm @d2 @hc))
  have d2:=decide_eq_false c2
  by_cases c3:15<x
  ·have d3:=decide_eq_true c3
   have hc:chk l=1:=by unfold chk;rw [if_neg c1,if_pos (hbad (decide_eq_false zO))]
   repeat (first|refine zR (ja5 iR hx.symm @d2 @d3 @hc) ?_|exact zU (ja5 iR hx.symm @d2 @d3 @hc))
  have d3:=decide_eq_false c3
  repeat (first|refine zR (ja4 iR hx.symm @d2 @d3) ?_|exact zU (ja4 iR hx.symm @d2 @d3))
  refine At.of (k+1) ⟨by omega,by rw [hs];exact decide_eq_true zO⟩ zO rfl rfl (Nat.le_refl _) ?_ ?_
  iterate 2 (case _=>(first|exact yT|refine yS ?_))
 ·simp only [decide_eq_false_iff_not] at h
  obtain rfl:k=l.length:=zO
  rw [List.take_length] at ha
  obtain ⟨hm,h15⟩:=ZnE ha
  have ht:=ZmB nl (l.map Int.toNat) (by rw [List.length_map];exact hl) h15
  rw [←hm] at ht
  repeat (first|refine zS ?_|exact zT)
  refine Zaq _ (.inl ⟨by simp only [AV.free,AV.free.freeL,ZfZ,Bool.and_self],ht⟩) ?_
  by_cases c4:32768<Zas (l.map Int.toNat)
  ·have d4:decide ((32768:Int)<(Zas (l.map Int.toNat):Nat))=true:=decide_eq_true zO
   have hc:chk l=3:=by unfold chk;rw [if_neg c1,if_neg (by rw [ha];simp),if_pos c4]
   repeat (first|refine zR (ja2 @d4 @hc) ?_|exact zU (ja2 @d4 @hc))
  ·have d4:decide ((32768:Int)<(Zas (l.map Int.toNat):Nat))=false:=decide_eq_false zO
   have hc:chk l=0:=by unfold chk;rw [if_neg c1,if_neg (by rw [ha];simp),if_neg c4]
   repeat (first|refine zR (ja2 @d4 @hc) ?_|exact zU (ja2 @d4 @hc))
theorem Zsj {l:List Int} (h:chk l=0):l.length≤320∧l.all Zrq=true∧Zas (l.map Int.toNat)≤32768:=by
 unfold chk at h
 split at h
 ·omega
 ·split at h
  ·omega
  ·rename_i h1 h2
   split at h
   ·omega
   ·exact ⟨by omega,by simpa using h2,by omega⟩
def Zkj (l:List Int):Bool:=decide (chk l=0)&&decide (Zas (l.map Int.toNat)=32768)
theorem Zrr [Tabs Tryz.prog] (nl:Bool) (l:List Int) (hl:l.length≤1000):Con Tryz.prog Zfw [.sl nl none (l.map int)] (boo (Zkj l)):=by
 refine Con.of' mix Tryz.func130 rfl Tryz.ntmps130 Zrn Zro zB (by simp only [AV.free,AV.free.freeL,ZfZ,Bool.and_self]) rfl ?_
 unfold Zmy
 have hf:AV.free.freeL [.sl nl none (l.map int)]=true:=by simp only [AV.free,AV.free.freeL,ZfZ,Bool.and_self]
 repeat (first|refine zS ?_|exact zT)
 refine Zaq _ (.inl ⟨hf,Zlo nl l hl⟩) ?_
 by_cases c:chk l=0
 ·have d:decide (((chk l:Nat):Int)=0)=true:=decide_eq_true zO
  obtain ⟨h1,h2,h3⟩:=Zsj c
  obtain ⟨hm,h15⟩:=ZnE h2
  have ht:=Zik nl (l.map Int.toNat) (by rw [List.length_map];exact hl) h15
  rw [←hm] at ht
  have hb:Zkj l=decide (Zas (l.map Int.toNat)=32768):=by simp [Zkj,c]
  have hd:decide (((Zas (l.map Int.toNat):Nat):Int)=32768)=decide (Zas (l.map Int.toNat)=32768):=decide_eq_decide.2 zO
  repeat (first|refine zR @d ?_|exact zU @d)
  refine Zaq _ (.inl ⟨hf,ht⟩) ?_
  repeat (first|refine zR (ja2 @hb @hd) ?_|exact zU (ja2 @hb @hd))
 ·have d:decide (((chk l:Nat):Int)=0)=false:=decide_eq_false zO
  have hb:Zkj l=false:=by simp [Zkj,c]
  repeat (first|refine zR (ja2 @d @hb) ?_|exact zU (ja2 @d @hb))
theorem Zup [Tabs Tryz.prog] (nl:Bool) (l:List Int) (hl:l.length≤1000):Con Tryz.prog Zbp [.sl nl none (l.map int)] (boo (Zkj l)):=by
 refine Con.of' mix Tryz.func54 rfl Tryz.ntmps54 Zjk Zjl zB (by simp only [AV.free,AV.free.freeL,ZfZ,Bool.and_self]) rfl ?_
 unfold ZfM
 have hf:AV.free.freeL [.sl nl none (l.map int)]=true:=by simp only [AV.free,AV.free.freeL,ZfZ,Bool.and_self]
 repeat (first|refine zS ?_|exact zT)
 refine Zaq _ (.inl ⟨hf,ZmC nl l hl⟩) ?_
 by_cases c:chk l=0
 ·have d:decide (((chk l:Nat):Int)=0)=true:=decide_eq_true zO
  obtain ⟨h1,h2,h3⟩:=Zsj c
  obtain ⟨hm,h15⟩:=ZnE h2
  have ht:=ZmB nl (l.map Int.toNat) (by rw [List.length_map];exact hl) h15
  rw [←hm] at ht
  have hb:Zkj l=decide (Zas (l.map Int.toNat)=32768):=by simp [Zkj,c]
  have hd:decide (((Zas (l.map Int.toNat):Nat):Int)=32768)=decide (Zas (l.map Int.toNat)=32768):=decide_eq_decide.2 zO
  repeat (first|refine zR @d ?_|exact zU @d)
  refine Zaq _ (.inl ⟨hf,ht⟩) ?_
  repeat (first|refine zR (ja2 @hb @hd) ?_|exact zU (ja2 @hb @hd))
 ·have d:decide (((chk l:Nat):Int)=0)=false:=decide_eq_false zO
  have hb:Zkj l=false:=by simp [Zkj,c]
  repeat (first|refine zR (ja2 @d @hb) ?_|exact zU (ja2 @d @hb))
def r16 (f:Nat→Nat):List Nat:=(List.range 16).map f
theorem Zau {f:Nat→Nat}:(r16 f).length=16:=by simp [r16]
theorem Zrs {f:Nat→Nat} {k:Nat} (h:k<16):(r16 f).getD k 0=f k:=by simp [r16,List.getD,h]
theorem Zrt {f g:Nat→Nat} {k x:Nat} (h:∀ i,i<16→g i=if i=k then x else f i):(r16 f).set k x=r16 g:=by
 apply List.ext_getElem?
 intro i
 rw [List.getElem?_set,Zau]
 by_cases hi:i<16
 ·have h1:(r16 f)[i]? = some (f i):=by simp [r16,hi]
  have h2:(r16 g)[i]? = some (g i):=by simp [r16,hi]
  rw [h1,h2,h i hi]
  by_cases e:k=i
  ·subst e;simp [hi]
  ·rw [if_neg e,if_neg (fun h=>e h.symm)]
 ·have h1:(r16 f)[i]? = none:=List.getElem?_eq_none (by rw [Zau];omega)
  have h2:(r16 g)[i]? = none:=List.getElem?_eq_none (by rw [Zau];omega)
  rw [h1,h2]
  split
  ·rename_i e;subst e;rw [if_neg hi]
  ·rfl
theorem ZpN {f g:Nat→Nat} (h:∀ i,i<16→f i=g i):r16 f=r16 g:=List.map_congr_left fun i hi=>h i (List.mem_range.1 hi)
theorem Zg8 {l:List Nat} {k n:Nat} (h:k<l.length):(l.take (k+1)).count n=(l.take k).count n+(if n=l.getD k 0 then 1 else 0):=by
 rw [Zm0 (d:=0) h,List.count_append]
 congr 1
 by_cases e:n=l.getD k 0
 ·rw [if_pos e,←e];simp
 ·rw [if_neg e,List.count_singleton];simp;exact fun h=>e h.symm
theorem Zhz {l:List Nat} {k n:Nat}:(l.take k).count n≤l.length:=Nat.le_trans List.count_le_length (by rw [List.length_take];omega)
def cn (l:List Nat) (n:Nat):Nat:=if n=0 then 0 else l.count n
def fr (l:List Nat):Nat→Nat
 | 0=>0
 | n+1=>2*(fr l n+cn l n)
theorem ZAX {l:List Nat} {n:Nat}:cn l n≤l.length:=by
 unfold cn;split
 ·omega
 ·exact List.count_le_length
theorem ZCG {l:List Nat} (hl:l.length≤320):∀ {n:Nat},fr l n+640≤640*2^n
 | 0=>by simp [fr]
 | n+1=>by
  have h1:=ZCG hl (n:=n)
  have h2:=ZAX (l:=l) (n:=n)
  simp only [fr,Nat.pow_succ];omega
theorem ZAY {l:List Nat} (hl:l.length≤320) {n:Nat} (hn:n≤15):fr l n≤20971520:=by
 have h1:=ZCG hl (n:=n)
 have h2:2^n≤32768:=ZaI (n:=n) (m:=15) hn
 omega
theorem ZlI [Tabs Tryz.prog] (nl:Bool) (l:List Nat) (hl:l.length≤320) (h15:∀ x∈l,x≤15):Con Tryz.prog ZhJ [.sl nl none (l.map nA)] (.agg ((r16 (fr l)).map nA)):=by
 refine Con.of' mix Tryz.func125 rfl Tryz.ntmps125 ZlE ZlF zB (by simp only [AV.free,AV.free.freeL,Zaj,Bool.and_self]) (by simp only [AV.free,Zaj]) ?_
 unfold ZhO
 obtain ⟨Z,hZ⟩:∃ Z,Z=r16 fun _=>0:=⟨_,rfl⟩
 have hZl:Z.length=16:=by rw [hZ,Zau]
 have hz:(List.replicate 16 (Value.int .i64 0)).map AV.sc=Z.map nA:=by rw [hZ];rfl
 have hZd:Z.drop 16=[]:=List.drop_of_length_le zO
 repeat (first|refine xR @hz ?_|exact xU @hz)
 refine SWp.loop (α:=Nat) (fun k=>mk 37 2 [(2,.op 2 0 0),(3,.op 3 1 0),(8,.sl nl none (l.map nA)),(9,int l.length),(10,int k)] [(2,0,.row false (Z.map nA)),(3,1,.row false ((r16 fun n=>(l.take k).count n).map nA))])
  (fun k=>k≤l.length) (fun k=>l.length-k) 0 (Nat.zero_le _) (Zal rfl ?_ ?_ ?_) ?_
 ·exact Nat.le_refl _
 iterate 2 (case _=>(first|exact vU (ja3 @List.take_zero.{0} @List.count_nil.{0} @hZ)|refine vR (ja3 @List.take_zero.{0} @List.count_nil.{0} @hZ) ?_))
 rintro k hk -
 repeat (first|refine xS ?_|exact xT)
 refine SWp.cond rfl (fun h=>?_) (fun h=>?_)
 ·simp only [decide_eq_true_eq] at h
  have hkl:k<l.length:=zO
  have hx15:l.getD k 0≤15:=by
   have:l.getD k 0=l[k]:=by simp [List.getD,List.getElem?_eq_getElem hkl]
   rw [this];exact h15 _ (List.getElem_mem hkl)
  have hcs:∀ n,(l.take (k+1)).count n=(l.take k).count n+(if n=l.getD k 0 then 1 else 0):=fun n=>Zg8 hkl
  obtain ⟨x,hx⟩:∃ x,x=l.getD k 0:=⟨_,rfl⟩
  rw [←hx] at hx15 hcs
  have hg:=Zrs (f:=fun n=>(l.take k).count n) (k:=x) zO
  have hcl:=Zhz (l:=l) (k:=k) (n:=x)
  have hset:=Zrt (f:=fun n=>(l.take k).count n) (g:=fun n=>(l.take (k+1)).count n) (k:=x) (x:=(l.take k).count x+1) (fun i hi=>by
   show (l.take (k+1)).count i=_
   rw [hcs]
   by_cases e:i=x
   ·subst e;simp
   ·simp [e])
  obtain ⟨S,hS⟩:∃ S,S=r16 fun n=>(l.take k).count n:=⟨_,rfl⟩
  have hSl:S.length=16:=by rw [hS,Zau]
  obtain ⟨y,hy⟩:∃ y,y=(l.take k).count x:=⟨_,rfl⟩
  rw [←hS] at hset hg ⊢
  simp only [←hy] at hg hset hcl
  have hsp:=ZeG (l:=S) (k:=x) (x:=y+1) zO
  rw [hset] at hsp
  repeat (first|refine xR (ja3 iR hx.symm @hg) ?_|exact xU (ja3 iR hx.symm @hg))
  refine At.of (k+1) zO zO rfl rfl (Nat.le_refl _) ?_ ?_
  ·(first|exact vT|refine vS ?_)
  ·(first|exact vT|refine vS ?_)
   exact hsp
 ·simp only [decide_eq_false_iff_not] at h
  obtain rfl:k=l.length:=zO
  rw [List.take_length]
  have hset:=Zrt (f:=fun n=>l.count n) (g:=cn l) (k:=0) (x:=0) (fun i hi=>rfl)
  obtain ⟨S0,hS0⟩:∃ S,S=r16 fun n=>l.count n:=⟨_,rfl⟩
  have hS0l:S0.length=16:=by rw [hS0,Zau]
  rw [←hS0] at hset ⊢
  obtain ⟨S,hS⟩:∃ S,S=r16 (cn l):=⟨_,rfl⟩
  have hSl:S.length=16:=by rw [hS,Zau]
  rw [←hS] at hset
  have hsp:=ZeG (l:=S0) (k:=0) (x:=0) zO
  rw [hset] at hsp
  simp only [List.take_zero,List.map_nil,List.nil_append] at hsp
  have hsp':AV.sc (.int .i64 0)::(S0.drop 1).map nA=S.map nA:=hsp
  repeat (first|refine xR (ja3 iR @hz @hsp') ?_|exact xU (ja3 iR @hz @hsp'))
  refine SWp.loop (α:=Nat) (fun k=>mk 37 3 [(2,.op 2 0 0),(3,.op 3 1 0),(6,.op 6 2 0),(21,int k)] [(2,0,.row false (Z.map nA)),(3,1,.row false (S.map nA)),(6,2,.row false ((r16 fun n=>if n≤k then fr l n else 0).map nA))])
   (fun k=>k≤15) (fun k=>15-k) 0 (Nat.zero_le _) (Zal rfl ?_ ?_ ?_) ?_
  ·exact Nat.le_refl _
  ·(first|exact vT|refine vS ?_)
  ·(first|exact vT|refine vS ?_)
   rw [hZ]
   exact congrArg (List.map nA) (ZpN fun i _=>by
    by_cases e:i≤0
    ·obtain rfl:i=0:=zO
     rfl
    ·rw [if_neg e])
  rintro k hk -
  repeat (first|refine xS ?_|exact xT)
  refine SWp.cond rfl (fun h=>?_) (fun h=>?_)
  ·simp only [decide_eq_true_eq] at h
   have hk15:k<15:=zO
   have hg:=Zrs (f:=fun n=>if n≤k then fr l n else 0) (k:=k) zO
   rw [if_pos (Nat.le_refl _)] at hg
   have hgs:S.getD k 0=cn l k:=by rw [hS];exact Zrs zO
   have hfl:=ZAY hl (n:=k) zO
   have hcl:=ZAX (l:=l) (n:=k)
   have hset:=Zrt (f:=fun n=>if n≤k then fr l n else 0) (g:=fun n=>if n≤k+1 then fr l n else 0) (k:=k+1) (x:=(fr l k+cn l k)*2) (fun i hi=>by
    show (if i≤k+1 then fr l i else 0)=if i=k+1 then _ else if i≤k then fr l i else 0
    by_cases e:i=k+1
    ·subst e;rw [if_pos (Nat.le_refl _),if_pos rfl,fr,Nat.mul_comm]
    ·rw [if_neg e]
     by_cases e2:i≤k
     ·rw [if_pos e2,if_pos zO]
     ·rw [if_neg e2,if_neg zO])
   obtain ⟨G,hG⟩:∃ G,G=r16 fun n=>if n≤k then fr l n else 0:=⟨_,rfl⟩
   have hGl:G.length=16:=by rw [hG,Zau]
   obtain ⟨x,hx⟩:∃ x,x=fr l k:=⟨_,rfl⟩
   obtain ⟨y,hy⟩:∃ y,y=cn l k:=⟨_,rfl⟩
   rw [←hx] at hg hfl hset
   rw [←hy] at hgs hcl hset
   rw [←hG] at hset hg ⊢
   have hsp:=ZeG (l:=G) (k:=k+1) (x:=(x+y)*2) zO
   rw [hset] at hsp
   repeat (first|refine xR (ja3 iR @hg @hgs) ?_|exact xU (ja3 iR @hg @hgs))
   refine At.of (k+1) zO zO rfl rfl (Nat.le_refl _) ?_ ?_
   ·(first|exact vT|refine vS ?_)
   ·(first|exact vT|refine vS ?_)
    exact hsp
  ·simp only [decide_eq_false_iff_not] at h
   obtain rfl:k=15:=zO
   have hr:(r16 fun n=>if n≤15 then fr l n else 0)=r16 (fr l):=ZpN fun i hi=>if_pos zO
   rw [hr]
   obtain ⟨F,hF⟩:∃ F,F=r16 (fr l):=⟨_,rfl⟩
   have hFl:F.length=16:=by rw [hF,Zau]
   rw [←hF]
   repeat (first|refine xR (ja3 iR @hFl @hZd) ?_|exact xU (ja3 iR @hFl @hZd))
def ZcQ (l:List Nat) (i:Nat):Nat:=if l.getD i 0=0 then 0 else fr l (l.getD i 0)+(l.take i).count (l.getD i 0)
def Zf1 (l:List Nat):List Nat:=(List.range l.length).map (ZcQ l)
theorem Zkk {l:List Nat}:(Zf1 l).length=l.length:=by simp [Zf1]
theorem Zzw {n:Nat}:(List.replicate n [AV.sc (.int .i64 0)]).flatten=(List.replicate n 0).map nA:=by
 induction n with
 | zero=>rfl
 | succ n ih=>simp only [List.replicate_succ,List.flatten_cons,ih,List.map_cons];rfl
def nxK (l:List Nat) (k:Nat) (n:Nat):Nat:=if n=0 then 0 else fr l n+(l.take k).count n
def st (l:List Nat) (n k:Nat):List Nat:=(List.range l.length).map fun i=>if l.getD i 0<n∨(l.getD i 0=n∧i<k) then ZcQ l i else l.getD i 0
theorem Zg9 {l:List Nat} {n k:Nat}:(st l n k).length=l.length:=by simp [st]
theorem Zwn {l:List Nat}:st l 0 0=l:=by
 apply List.ext_getElem?
 intro i
 by_cases h:i<l.length
 ·simp [st,h,List.getD]
 ·rw [List.getElem?_eq_none (by rw [Zg9];omega),List.getElem?_eq_none zO]
theorem ZAZ {l:List Nat} {n:Nat}:st l n l.length=st l (n+1) 0:=by
 refine List.map_congr_left fun i hi=>?_
 have:=List.mem_range.1 hi
 by_cases e:l.getD i 0<n∨(l.getD i 0=n∧i<l.length)
 ·rw [if_pos e,if_pos zO]
 ·rw [if_neg e,if_neg zO]
theorem ZCH {l:List Nat} (h15:∀ x∈l,x≤15):st l 16 0=Zf1 l:=by
 refine List.map_congr_left fun i hi=>?_
 have hi:=List.mem_range.1 hi
 have:l.getD i 0=l[i]:=by simp [List.getD,List.getElem?_eq_getElem hi]
 have:=h15 _ (List.getElem_mem hi)
 rw [if_pos zO]
theorem ZA0 {l:List Nat} {n k:Nat} (h:l.getD k 0≠n):st l n (k+1)=st l n k:=by
 refine List.map_congr_left fun i hi=>?_
 by_cases e:i=k
 ·subst e
  by_cases e2:l.getD i 0<n
  ·rw [if_pos zO,if_pos zO]
  ·rw [if_neg zO,if_neg zO]
 ·by_cases e2:l.getD i 0<n∨(l.getD i 0=n∧i<k)
  ·rw [if_pos zO,if_pos e2]
  ·rw [if_neg zO,if_neg e2]
theorem ZCI {l:List Nat} {n k:Nat} (hk:k<l.length) (h:l.getD k 0=n):(st l n k).set k (ZcQ l k)=st l n (k+1):=by
 apply List.ext_getElem?
 intro i
 rw [List.getElem?_set,Zg9]
 by_cases hi:i<l.length
 ·have h1:(st l n k)[i]? = some (if l.getD i 0<n∨(l.getD i 0=n∧i<k) then ZcQ l i else l.getD i 0):=by simp [st,hi]
  have h2:(st l n (k+1))[i]? = some (if l.getD i 0<n∨(l.getD i 0=n∧i<k+1) then ZcQ l i else l.getD i 0):=by simp [st,hi]
  rw [h1,h2]
  by_cases e:k=i
  ·subst e;rw [if_pos rfl,if_pos hk,if_pos zO]
  ·rw [if_neg e]
   by_cases e2:l.getD i 0<n∨(l.getD i 0=n∧i<k)
   ·rw [if_pos e2,if_pos zO]
   ·rw [if_neg e2,if_neg zO]
 ·have h1:(st l n k)[i]? = none:=List.getElem?_eq_none (by rw [Zg9];omega)
  have h2:(st l n (k+1))[i]? = none:=List.getElem?_eq_none (by rw [Zg9];omega)
  rw [h1,h2,if_neg zO]
theorem Zru [Tabs Tryz.prog] (nl:Bool) (li:List Int) (hc:chk li=0) (l:List Nat) (hli:l=li.map Int.toNat):Con Tryz.prog ZcU [.sl nl none (li.map int)] (.tup [.sl l.isEmpty none ((Zf1 l).map nA),int 0]):=by
 obtain ⟨hlen,ha,hK⟩:=Zsj hc
 obtain ⟨hm,h15⟩:=ZnE ha
 rw [←hli] at hm h15 hK
 have hl:l.length≤320:=by rw [hli,List.length_map];exact hlen
 have hchk:=ZmC nl li zO
 rw [hm,hc] at hchk
 rw [hm]
 clear hm ha hc
 refine Con.of' mix Tryz.func53 rfl Tryz.ntmps53 ZiO ZiP zB (by simp only [AV.free,AV.free.freeL,Zaj,Bool.and_self]) (by simp only [AV.free,AV.free.freeL,Zaj,int,Bool.and_self]) ?_
 unfold Ze0
 have hf:AV.free.freeL [.sl nl none (l.map nA)]=true:=by simp only [AV.free,AV.free.freeL,Zaj,Bool.and_self]
 obtain ⟨em,hem⟩:∃ em,em=l.isEmpty:=⟨_,rfl⟩
 have hem2:(l.map nA).isEmpty=em:=by rw [hem];cases l <;> rfl
 rw [←hem]
 repeat (first|refine xS ?_|exact xT)
 refine Zaq _ (.inl ⟨hf,hchk⟩) ?_
 repeat (first|refine xR (ja2 iR @hem2) ?_|exact xU (ja2 iR @hem2))
 refine SWp.loop (α:=Nat) (fun n=>mk 47 1 [(0,.sl nl none (l.map nA)),(5,.own 16 0 none 0 l.length),(6,int (fr l n:Nat)),(7,int n)] [(16,0,.row em ((st l n 0).map nA))])
  (fun n=>n≤16) (fun n=>16-n) 0 (Nat.zero_le _) (Zal rfl ?_ ?_ ?_) ?_
 ·exact Nat.le_refl _
 iterate 2 (case _=>(first|exact vU (ja3 @fr.eq_1 @fr.eq_2 @Zwn)|refine vR (ja3 @fr.eq_1 @fr.eq_2 @Zwn) ?_))
 rintro n hn -
 repeat (first|refine xS ?_|exact xT)
 refine SWp.cond rfl (fun h=>?_) (fun h=>?_)
 ·simp only [decide_eq_true_eq] at h
  have hn15:n≤15:=zO
  have hfl:=ZAY hl (n:=n) hn15
  repeat (first|refine xS ?_|exact xT)
  refine SWp.loop (α:=Nat) (fun k=>mk 47 1 [(0,.sl nl none (l.map nA)),(5,.own 16 0 none 0 l.length),(6,int (nxK l k n:Nat)),(7,int n),(8,int k)] [(16,0,.row em ((st l n k).map nA))])
   (fun k=>k≤l.length) (fun k=>l.length-k) 0 (Nat.zero_le _) (Zal rfl ?_ ?_ ?_) ?_
  ·exact Nat.le_refl _
  ·(first|exact vT|refine vS ?_)
   have:nxK l 0 n=fr l n:=by
    unfold nxK
    by_cases e:n=0
    ·subst e;rfl
    ·rw [if_neg e];simp
   rw [this]
  ·(first|exact vT|refine vS ?_)
  rintro k hk -
  have hcl:=Zhz (l:=l) (k:=k) (n:=n)
  have hyl:nxK l k n≤20971840:=by
   unfold nxK
   split
   ·omega
   ·omega
  repeat (first|refine xS ?_|exact xT)
  refine SWp.cond rfl (fun h=>?_) (fun h=>?_)
  ·simp only [decide_eq_true_eq] at h
   have hkl:k<l.length:=zO
   have hcs:=Zg8 (n:=n) hkl
   have hsm:=ZA0 (l:=l) (n:=n) (k:=k)
   have hst:=ZCI (n:=n) hkl
   have hcd:l.getD k 0=n→ZcQ l k=nxK l k n:=fun h=>by unfold ZcQ nxK;rw [h]
   obtain ⟨x,hx⟩:∃ x,x=l.getD k 0:=⟨_,rfl⟩
   rw [←hx] at hcs hsm hst hcd
   obtain ⟨C,hC⟩:∃ C,C=st l n k:=⟨_,rfl⟩
   have hCl:C.length=l.length:=by rw [hC,Zg9]
   rw [←hC] at hst hsm ⊢
   by_cases c0:x=n
   ·have d0:decide ((x:Int)=(n:Int))=true:=decide_eq_true zO
    have hst:=hst c0
    rw [hcd c0] at hst
    by_cases cn:n=0
    ·have dn:decide ((0:Int)<(n:Int))=false:=decide_eq_false zO
     have hy0:nxK l k n=0:=by unfold nxK;rw [if_pos cn]
     have hy1:nxK l (k+1) n=0:=by unfold nxK;rw [if_pos cn]
     rw [hy0] at hst ⊢
     have hsp:=ZeG (l:=C) (k:=k) (x:=0) zO
     rw [hst] at hsp
     have hCl2:(st l n (k+1)).length=l.length:=Zg9
     have hss:(st l n (k+1)).set k 0=st l n (k+1):=by rw [←hst,List.set_set]
     have hsp2:=ZeG (l:=st l n (k+1)) (k:=k) (x:=0) zO
     rw [hss] at hsp2
     have hsp':(C.take k).map nA++AV.sc (.int .i64 0)::(C.drop (k+1)).map nA=(st l n (k+1)).map nA:=hsp
     repeat (first|refine xR (ja5 iR hx.symm @d0 @dn @hsp') ?_|exact xU (ja5 iR hx.symm @d0 @dn @hsp'))
     refine At.of (k+1) zO zO rfl rfl (Nat.le_refl _) ?_ ?_
     ·(first|exact vU @hy1|refine vR @hy1 ?_)
     ·(first|exact vT|refine vS ?_)
      exact hsp2
    ·have dn:decide ((0:Int)<(n:Int))=true:=decide_eq_true zO
     have hy1:nxK l (k+1) n=nxK l k n+1:=by unfold nxK;rw [if_neg cn,if_neg cn,hcs,if_pos c0.symm];omega
     obtain ⟨y,hy⟩:∃ y,y=nxK l k n:=⟨_,rfl⟩
     rw [←hy] at hst hyl hy1 ⊢
     have hsp:=ZeG (l:=C) (k:=k) (x:=y) zO
     rw [hst] at hsp
     repeat (first|refine xR (ja4 iR hx.symm @d0 @dn) ?_|exact xU (ja4 iR hx.symm @d0 @dn))
     refine At.of (k+1) zO zO rfl rfl (Nat.le_refl _) ?_ ?_
     ·(first|exact vU @hy1|refine vR @hy1 ?_)
     ·(first|exact vT|refine vS ?_)
      exact hsp
   ·have d0:decide ((x:Int)=(n:Int))=false:=decide_eq_false zO
    have hsm:=hsm c0
    have hy1:nxK l (k+1) n=nxK l k n:=by
     unfold nxK
     split
     ·rfl
     ·rw [hcs,if_neg (fun h=>c0 h.symm)];rfl
    repeat (first|refine xR (ja3 iR hx.symm @d0) ?_|exact xU (ja3 iR hx.symm @d0))
    refine At.of (k+1) zO zO rfl rfl (Nat.le_refl _) ?_ ?_
    iterate 2 (case _=>(first|exact vU (ja2 @hy1 @hsm)|refine vR (ja2 @hy1 @hsm) ?_))
  ·simp only [decide_eq_false_iff_not] at h
   obtain rfl:k=l.length:=zO
   have hfn:nxK l l.length n*2=fr l (n+1):=by
    unfold nxK
    by_cases e:n=0
    ·subst e;rfl
    ·rw [if_neg e,List.take_length,fr,cn,if_neg e,Nat.mul_comm]
   have hst:=ZAZ (l:=l) (n:=n)
   rw [hst]
   obtain ⟨y,hy⟩:∃ y,y=nxK l l.length n:=⟨_,rfl⟩
   rw [←hy] at hfn hyl ⊢
   repeat (first|refine xS ?_|exact xT)
   refine At.of (n+1) zO zO rfl rfl (Nat.le_refl _) ?_ ?_
   ·(first|exact vU hfn.symm|refine vR hfn.symm ?_)
    omega
   ·(first|exact vT|refine vS ?_)
 ·simp only [decide_eq_false_iff_not] at h
  obtain rfl:n=16:=zO
  rw [ZCH h15]
  have hlc:=Zkk (l:=l)
  repeat (first|refine xR iR ?_|exact xU iR)
end Go.Proofs.YtfplkgciebjehabGreatDoor.Aw
