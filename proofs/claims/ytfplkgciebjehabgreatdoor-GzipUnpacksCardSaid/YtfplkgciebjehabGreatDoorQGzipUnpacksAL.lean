/- Parts of the proof of GzipUnpacks. -/
import Derived.Test.YtfplkgciebjehabGreatDoorQGzipUnpacksAK
import Derived.Laws.StructEq
namespace Go.Proofs.YtfplkgciebjehabGreatDoor.Aw
open Go
set_option linter.unusedSimpArgs false
set_option linter.unusedVariables false
section
variable {P:Program} {G:Gh} {w:World} {c:Nat} {M:Nat→Prop} {hp:Hp}
theorem ZzL {x y:AV} (h:x=y):eqB x y=true:=by simp [eqB,h]
theorem ZBM {x y:AV} (h:x≠y):eqB x y=false:=by simp [eqB,h]
theorem Ztb {T:TypeId} {z:Value} (hT:(match P.underlying T with | some (.array _ _) | some (.struct _)=>true | _=>false)=true) (hz:Zr2 P T=some z) (hgt:P.eqGuardType P.depth T=false) {neg:Bool} (ox oy:Operand) {x y:AV} {vx vy:Value}
  (h:(Zzp neg z x y).1) (hx:Rd G w x vx) (hy:Rd G w y vy) :
  ∃ v,(do eqGuard (if neg then .neq else .eql) T ox oy vx vy;binOp (if neg then .neq else .eql) T vx vy).run P w = .ok v w∧Rd G w (Zzp neg z x y).2 v∧(Zzp neg z x y).2.gl c:=by
 obtain ⟨rfl,lx⟩:=Zc0 h.1 hx
 obtain ⟨rfl,ly⟩:=Zc0 h.2 hy
 obtain ⟨r,hr,hi⟩:=(ZlP hz).eqs hT w vx vy lx ly
 have hzz:∃ zs,z = .agg zs:=by
  unfold Zr2 at hz
  split at hz
  ·split at hz <;> simp_all
   ·exact ⟨_,hz.2.symm⟩
   ·exact ⟨_,hz.2.symm⟩
  ·simp at hz
 obtain ⟨zs,rfl⟩:=hzz
 have ha:∀ v,Ze7 (.agg zs) v→∃ xs,v = .agg xs:=fun v hv=>by
  cases v <;> simp only [Ze7,Zfq] at hv
  exact ⟨_,rfl⟩
 obtain ⟨xs,rfl⟩:=ha _ lx
 obtain ⟨ys,rfl⟩:=ha _ ly
 have he:eqB (ZBA (.agg xs)) (ZBA (.agg ys))=r:=by
  cases r with
  | true=>exact ZzL (by rw [hi.1 rfl])
  | false=>exact ZBM fun e=>by have:=hi.2 (Zn5 lx ly e);cases this
 have hgd:=fun op=>run_eqGuard_agg (P:=P) (w:=w) op T ox oy xs ys hgt
 refine ⟨.bool (neg ^^ r),?_,by simp only [Zzp,he,boo,Rd],by simp only [Zzp];exact Zgd⟩
 cases neg with
 | false=>simp only [binOp];simp [hgd,hr]
 | true=>simp only [binOp];simp [hgd,hr]
def ZmU (s:ByteArray):List Value:=s.data.toList.map fun b=>Value.int .u8 b.toNat
theorem ZjW {s:ByteArray}:(ZmU s).length=s.data.toList.length:=by simp [ZmU]
theorem ZlQ {s:ByteArray}:∀ u∈ZmU s,u.oneCell'=true:=by
 intro u hu
 obtain ⟨b,_,rfl⟩:=List.mem_map.1 hu
 rfl
theorem ZqI {s:ByteArray}:s.data.toList.map u8=(ZmU s).map AV.sc:=by simp [ZmU,u8]
theorem ZjX {s:ByteArray}:(s.extract 0 s.size).data.map (fun b:UInt8=>Value.int .u8 (b.toNat:Int))=(ZmU s).toArray:=by
 have:s.extract 0 s.size=s:=by
  apply ByteArray.ext
  rw [ByteArray.data_extract]
  exact Array.extract_size
 rw [this]
 apply Array.ext'
 simp [ZmU]
theorem ZjY (t u ty e:TypeId) (i:TypeInfo) (ht:P.underlying t=some (.slice e)) (hu:P.underlying u=some .string) (hi:P.info? e=some i) (b:Option Addr) (n k:Nat) (hn:n≤k) (s:ByteArray) (h0:s.size=0) :
  (Builtin.append_ #[t,u] ty #[.slice b n k,.string s]).run P w = .ok (.slice b n k) w:=by
 have hc:=ZjX (s:=s)
 have hv:ZmU s=[]:=List.eq_nil_of_length_eq_zero (by rw [ZjW];exact h0)
 rw [hv,h0] at hc
 cases b <;> simp [Builtin.append_,run_underlying ht,run_underlying hu,sizeOf,typeInfo,hi,Builtin.lenOf,Builtin.firstCells,hn,h0,storeCells]
theorem Zpi (t u ty e:TypeId) (i:TypeInfo) (z:Value) (ht:P.underlying t=some (.slice e)) (hu:P.underlying u=some .string) (hi:P.info? e=some i) (hz:i.zero=some z)
  (s:ByteArray) (h0:0<s.size) (h63:s.size≤70368744177664) (h48:s.size*i.bytes≤70368744177664) :
  (Builtin.append_ #[t,u] ty #[.slice none 0 0,.string s]).run P w =
   .ok (.slice (some ⟨w.heap.size,0,none⟩) s.size (grownCap w s.size 0 e)) (w.drew.alloc (.cells ((ZmU s).toArray++Builtin.zeroCells z.cells (grownCap w s.size 0 e-s.size)) e)):=by
 have hn:s.size≠0:=by omega
 have h63':¬ (9223372036854775807<(s.size:Int)):=by omega
 have h48':¬ (281474976710656<Builtin.nextslicecap s.size 0*i.bytes):=by rw [nextslicecap_zero h0];omega
 have hf:∀ w',(Builtin.firstCells i.size s.size (.string s)).run P w' = .ok (ZmU s).toArray w':=fun w'=>by
  rw [←ZjX];rfl
 simp [Builtin.append_,run_underlying ht,run_underlying hu,sizeOf,typeInfo,zeroValue,hi,hz,Builtin.lenOf,hn,h63',h48',Question.forced,run_firstCells_none,hf,newRow,grownCap]
theorem Zn7 (t u ty e:TypeId) (i:TypeInfo) (z:Value) (ht:P.underlying t=some (.slice e)) (hu:P.underlying u=some .string) (hi:P.info? e=some i) (hz:i.zero=some z)
  (b:Addr) (sLen sCap:Nat) (olds:List Value) (hlo:olds.length=sLen*i.size) (holds:∀ j v,olds[j]? = some v→w.cell? (b.add j)=some v)
  (s:ByteArray) (hg:sCap<sLen+s.size) (h63:sLen+s.size≤70368744177664) (hfit:Builtin.nextslicecap (sLen+s.size) sCap*i.bytes≤281474976710656) :
  (Builtin.append_ #[t,u] ty #[.slice (some b) sLen sCap,.string s]).run P w =
   .ok (.slice (some ⟨w.heap.size,0,none⟩) (sLen+s.size) (grownCap w (sLen+s.size) sCap e))
    (w.drew.alloc (.cells (olds.toArray++(ZmU s).toArray++Builtin.zeroCells z.cells (grownCap w (sLen+s.size) sCap e-(sLen+s.size))) e)):=by
 have hg':¬ (sLen+s.size≤sCap):=by omega
 have h63':¬ (9223372036854775807<(sLen:Int)+(s.size:Int)):=by omega
 have h48':¬ (281474976710656<Builtin.nextslicecap (sLen+s.size) sCap*i.bytes):=by omega
 have hfo:=run_firstCells_some (P:=P) w.drew i.size sLen b sLen sCap olds hlo (by simpa using holds)
 have hf:∀ w',(Builtin.firstCells i.size s.size (.string s)).run P w' = .ok (ZmU s).toArray w':=fun w'=>by
  rw [←ZjX];rfl
 simp [Builtin.append_,run_underlying ht,run_underlying hu,sizeOf,typeInfo,zeroValue,hi,hz,Builtin.lenOf,hg',h63',h48',Question.forced,hfo,hf,newRow,grownCap]
 congr 2
 apply Array.ext'
 simp [List.append_assoc]
theorem Zn8 (t u ty e E:TypeId) (i:TypeInfo) (ht:P.underlying t=some (.slice e)) (hu:P.underlying u=some .string) (hi:P.info? e=some i) (hs:i.size=1)
  (g sLen sCap:Nat) (cur:Array Value) (hg:w.heap[g]? = some (.cells cur E (0,0))) (s:ByteArray) (hroom:sLen+s.size≤sCap) (hfit:sLen+s.size≤cur.size) :
  (Builtin.append_ #[t,u] ty #[.slice (some ⟨g,0,none⟩) sLen sCap,.string s]).run P w =
   .ok (.slice (some ⟨g,0,none⟩) (sLen+s.size) sCap) (w.setRow g (cur.toList.take sLen++ZmU s++cur.toList.drop (sLen+s.size)).toArray):=by
 have hl:(ZmU s).length=s.size:=ZjW
 have hst:=run_storeCells_at P g sLen E (ZmU s) 0 cur w hg (by rw [hl];simpa using hfit) ZlQ
 simp only [Nat.add_zero,hl] at hst
 have hf:∀ w',(Builtin.firstCells i.size s.size (.string s)).run P w' = .ok (ZmU s).toArray w':=fun w'=>by
  rw [←ZjX];rfl
 rw [hs] at hf
 simp [Builtin.append_,run_underlying ht,run_underlying hu,sizeOf,typeInfo,hi,hs,Builtin.lenOf,hroom,hf,ZcG,hst]
theorem ZqJ {T U E ty:TypeId} {i:TypeInfo} {zv:Value} (hT:P.underlying T=some (.slice E)) (hU:P.underlying U=some .string) (hi:P.info? E=some i) (hz:i.zero=some zv) (hzs:zv.cells.size=1) (hs1:i.size=1)
  (hH:Heap c M G hp w) (hM:∀ b,w.heap.size≤b→M b) (d:Nat) {x y:AV} {vx vy:Value} (hx:Rd G w x vx) (hgx:x.gl c) (hy:Rd G w y vy) (h:(ZnW i.bytes x y hp c d).1) :
  ∃ v w',(Builtin.append_ #[T,U] ty #[vx,vy]).run P w = .ok v w'∧Res c M G w (ZnW i.bytes x y hp c d).2.1 (ZnW i.bytes x y hp c d).2.2.1 (ZnW i.bytes x y hp c d).2.2.2 v w':=by
 have hes:i.size=esz none:=hs1
 have hnil:∀ (s:ByteArray) (id:Nat),s.data.toList.length*i.bytes≤70368744177664→s.data.toList.length≤70368744177664→∃ v w',(Builtin.append_ #[T,U] ty #[.slice none 0 0,.string s]).run P w = .ok v w' ∧
   Res c M G w (.own id c none 0 s.data.toList.length) (Za8 hp id (some (c,.row s.data.toList.isEmpty (s.data.toList.map u8)))) (c+1) v w':=by
  intro s id hb hb'
  have hsz:s.data.toList.length=s.size:=rfl
  rw [hsz] at hb hb' ⊢
  by_cases hn:s.size=0
  ·have hd:s.data.toList=[]:=List.eq_nil_of_length_eq_zero hn
   refine ⟨_,_,ZjY T U ty E i hT hU hi none 0 0 (Nat.le_refl _) s hn,?_⟩
   rw [hn,hd]
   exact Zmb hH id none
  ·refine ⟨_,_,Zpi T U ty E i zv hT hU hi hz s (by omega) hb' hb,?_⟩
   have hge:=grownCap_ge w s.size 0 E
   have:=Zit (e:=E) (es:=none) (i:=i) hes hH hM id (n:=0) (m:=s.size) (cap:=grownCap w s.size 0 E) (xs:=[]) (olds:=[]) (news:=ZmU s) (zs:=Builtin.zeroCells zv.cells (grownCap w s.size 0 E-s.size)) (by omega) (by rw [size_zeroCells,hzs,hs1];congr 1;omega) (by simp [RdL]) (ZeR _) (by simp [AV.gl.glL]) (Zfo _) (by simp) (by rw [ZjW,hs1,hsz];omega) (by simp) ZlQ
   rw [ZqI]
   have e:s.data.toList.isEmpty=false:=by
    cases hd:s.data.toList with
    | nil=>rw [hd] at hsz;simp at hsz;omega
    | cons _ _=>rfl
   rw [e]
   simpa using this
 unfold ZnW at *
 split at h
 ·rename_i s
  have hyv:=hy.sc_inv
  subst hyv
  have hsz:s.data.toList.length=s.size:=rfl
  split at h
  ·rename_i id g es' lo m
   split at h
   ·rename_i g' nl cells hid
    obtain ⟨rfl,rfl,rfl,hn,hb,hb'⟩:=h
    obtain ⟨ob,hob,hnl,hnil',hrow⟩:=hH.rowC _ _ _ _ hid
    have hgc:=(hH.gl _ _ _ _ hid).2
    simp only [Rd] at hx
    have hx:=hx.2 _ hob
    cases ob with
    | none =>
     obtain ⟨rfl,rfl,_⟩:=hx
     have hc:=hnil' rfl
     have hnl':nl=true:=hnl.2 rfl
     subst hc;subst hnl'
     have:=hnil s id (by simpa using hb) (by simpa using hb')
     simpa using this
    | some b =>
     obtain ⟨cap,o,E0,k0,rfl,q1,q2,q3,q4⟩:=hx
     obtain ⟨_,hMb,vs0,cs,E',hbk,hvs,hcs,h1⟩:=hrow b rfl ⟨_,q3⟩
     have hnl':nl=false:=by cases nl <;> simp_all
     subst hnl'
     have hl0:=hvs.length
     simp only [Bool.false_and]
     have hshape:k0=cs.size:=by
      simp only [World.shape?,hbk] at q3
      cases q3;rfl
     subst hshape
     have hvl:vs0.length=m:=by rw [hl0,←hn]
     rw [hsz] at hb hb' ⊢
     have q4:cap≤cs.size:=by simpa [esz] using q4
     by_cases hn0:s.size=0
     ·have hd:s.data.toList=[]:=List.eq_nil_of_length_eq_zero hn0
      refine ⟨_,_,ZjY T U ty E i hT hU hi _ m cap q1 s hn0,?_⟩
      have hself:=ZhZ w b cs E' hbk
      have hres:=Zh0 (c:=c) (M:=M) (G:=G) (hp:=hp) hH (id:=id) (g:=g') (g':=c) (c':=c+1) hob (cs':=cs) hbk rfl hMb (.inl ⟨rfl,rfl⟩) hvs hgc hcs h1 (r:=.own id c none 0 m) (x:=.slice (some ⟨b,o,none⟩) m cap) (by
       simp only [Rd]
       refine ⟨.inr ⟨b,cap,o,rfl,q1,q2⟩,fun ob' hob'=>?_⟩
       rw [ZkB] at hob';cases hob'
       rw [hself]
       exact ⟨cap,o,E0,cs.size,rfl,q1,q2,q3,by simpa [esz] using q4⟩) (by simp [AV.gl])
      rw [hself] at hres
      rw [hn0,hd]
      simpa using hres
     ·by_cases hroom:m+s.size≤cap
      ·have ho:o=0:=by rcases q2 with q2 | q2 <;> omega
       subst ho
       have hfit:m+s.size≤cs.size:=by omega
       have hrun:=Zn8 (P:=P) (w:=w) T U ty E E' i hT hU hi hs1 b m cap cs hbk s hroom hfit
       refine ⟨_,_,hrun,?_⟩
       rw [ZqI]
       have hsl:(ZmU s).length=s.size:=ZjW
       have hsg:=Zfg (o:=m) (us:=ZmU s) hcs (by omega) (by rw [hsl];exact hfit)
       rw [hsl] at hsg
       refine Zh0 hH (id:=id) (g:=g') (g':=c) (c':=c+1) hob hbk ?_ hMb (.inl ⟨rfl,rfl⟩) (vs:=vs0++ZmU s) (hvs.append (ZeR _)) (Zba hgc (Zfo _)) ?_ ?_ ?_ (by simp [AV.gl])
       ·simp only [List.size_toArray,List.length_append,List.length_take,List.length_drop,hsl,Array.length_toList]
        omega
       ·intro j u hu
        have:=hsg j u
        rw [←hvl,List.take_length,List.drop_of_length_le (by omega),List.append_nil] at this
        rw [hvl] at this
        exact this hu
       ·intro u hu
        rcases List.mem_append.1 hu with hu | hu
        ·exact h1 u hu
        ·exact ZlQ u hu
       ·refine Zef (E:=E') (k:=cs.size) hroom ?_ (by simpa [esz] using q4)
        simp only [World.shape?,Zeg _ _ _ _ _ _ hbk]
        simp only [List.size_toArray,List.length_append,List.length_take,List.length_drop,hsl,Array.length_toList]
        congr 2
        omega
      ·have hold:∀ (j:Nat) (v:Value),vs0[j]? = some v→w.cell? ((⟨b,o,none⟩:Addr).add j)=some v:=by
        intro j v hv
        have hlt:j<vs0.length:=by
         rcases Nat.lt_or_ge j vs0.length with h' | h'
         ·exact h'
         ·rw [List.getElem?_eq_none h'] at hv;simp at hv
        have ho:o=0:=by
         rcases q2 with q2 | q2
         ·exact q2
         ·omega
        subst ho
        rw [ZcG]
        simp only [World.cell?,hbk]
        simpa using hcs j v hv
       have hbb:(m+s.size)*i.bytes≤140737488355328:=by omega
       have hrun:=Zn7 (P:=P) (w:=w) T U ty E i zv hT hU hi hz ⟨b,o,none⟩ m cap vs0 (by rw [hvl,hs1];omega) hold s (Nat.lt_of_not_le hroom) hb' (growslice_fits (by omega) hbb)
       refine ⟨_,_,hrun,?_⟩
       have hge:=grownCap_ge w (m+s.size) cap E
       have:=Zit (e:=E) (es:=none) (i:=i) hes hH hM id (n:=m) (m:=s.size) (cap:=grownCap w (m+s.size) cap E) (news:=ZmU s) (zs:=Builtin.zeroCells zv.cells (grownCap w (m+s.size) cap E-(m+s.size))) hge (by rw [size_zeroCells,hzs,hs1]) hvs (ZeR _) hgc (Zfo _) (by rw [hvl,hs1];omega) (by rw [ZjW,hs1,hsz];omega) h1 ZlQ
       rw [ZqI]
       simpa using this
   ·exact absurd h (by simp)
  ·obtain ⟨hb,hb'⟩:=h
   have hx:=hx.sc_inv
   subst hx
   exact hnil s d hb hb'
  ·exact absurd h (by simp)
 ·exact absurd h (by simp)
end
end Go.Proofs.YtfplkgciebjehabGreatDoor.Aw
