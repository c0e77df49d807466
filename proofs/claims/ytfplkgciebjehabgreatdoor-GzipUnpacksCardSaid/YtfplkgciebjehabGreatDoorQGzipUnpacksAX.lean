/- Parts of the proof of GzipUnpacks. -/
import Derived.Test.YtfplkgciebjehabGreatDoorQGzipUnpacksAW
import Derived.ProofKit
import Derived.OpenShut
import Derived.Deep.DeepHandedRow
import Derived.Lib.LaidTab
import Derived.SevenTiedAt
namespace Go.Proofs.YtfplkgciebjehabGreatDoor.Aw
open Go Go.ChangeShapes Go.WideShapes Go.ChangeAt Go.RowKit
set_option linter.unusedSimpArgs false
set_option linter.unusedVariables false
section
variable {H:Type} {enc:TypeId × Value→H} {P:Program}
def all (w:World):Gh:=⟨fun b=>b<w.heap.size,fun _ _=>none⟩
theorem Zj1 (hl:laidOutB P=true) {W W':World} {sp:Nat→Bool} (hb:Below W.heap.size W W'):∀ (ts:List TypeId) (vs:List Value) (ds:List (DataW H)) (ps:List MemPlace),(∀ t∈ts,P.readableRec t=true∧t<P.types.size) →
  DataW.TrodAll enc P W 0 (fun _=>true) true ts vs ds ps→(∀ p∈ps,p.block<W.heap.size)→(∀ p∈ps,sp p.block=true)→DataW.TrodAll enc P W' 0 sp true ts vs ds ps
 | [],vs,ds,ps,_,h,_,_=>by
  obtain ⟨rfl,rfl,rfl⟩:=trodAll_nil h
  exact trodAll_mk0
 | t::ts,vs,ds,ps,hr,h,hlt,hsp=>by
  obtain ⟨v,vs',d,ds',p,q,rfl,rfl,rfl,h1,h2⟩:=trodAll_cons h
  refine trodAll_cons_mk (WideElems.Trod_stays hl (hr t (by simp)).1 (hr t (by simp)).2 h1 (fun x hx=>hb.same (hlt x (by simp [hx]))) (fun x hx=>hsp x (by simp [hx]))) ?_
  exact Zj1 hl hb ts vs' ds' q (fun u hu=>hr u (by simp [hu])) h2 (fun x hx=>hlt x (by simp [hx])) (fun x hx=>hsp x (by simp [hx]))
theorem Zyo {f:FuncId} {fn:Func} {s:ChangeSpec} {W:World} {args:Array Value} {ds gs:List (DataW H)} {before:List MemPlace} {tb:TypeId} (hl:laidOutB P=true)
  (hvars:s.vars=[]) (hrt:fn.resultTypes=#[tb]) (htb:P.underlying tb=some .bool) (hr:∀ t∈fn.params.toList,P.readableRec t=true∧t<P.types.size)
  (hW:DataW.Whole enc P fn.params.toList s.vars false W args.toList ds gs before) (hspec:(s.fn H ds)={ results:=[.lit (.bool true)],args:=ds })
  (h:Calls P f args W fun e w'=>∃ v S',e = .returned v∧Keep W.heap.size (fun _=>False) W w'∧(∀ b,(all W).S b→S' b)∧(∀ b,S' b→(all W).S b∨W.heap.size≤b)∧(∀ b,S' b→b<w'.heap.size)∧(boo true).free=true∧Rd ⟨S',fun _ _=>none⟩ w' (boo true) v) :
  Calls P f args W fun e W'=>∃ v,e = .returned v∧s.post enc P fn false true false false W args v W':=by
 have hW':=hW
 obtain ⟨p,q,hA,hV,rfl,hfz,hnd⟩:=hW
 rw [hvars] at hV
 obtain ⟨rfl,rfl⟩:=trodVars_none hV
 refine h.mono ?_
 rintro e W' ⟨v,S',rfl,hk,_,_,_,_,hv⟩
 have hv:=hv.sc_inv
 subst hv
 have hb:Below W.heap.size W W':=hk.below
 have hlt:∀ x∈p,x.block<W.heap.size:=fun x hx=>hW'.lt x (by simp [hx])
 refine ⟨_,rfl,ds,[],p++[],[],p,[],hW',?_,?_,?_,World.keptBut_mono (fun x hx=>⟨hx,.inr (.inl (by simpa using hx))⟩) (hb.frame _),fun h=>by simp at h⟩
 ·rw [List.append_nil,hspec,hrt]
  exact trodAll_cons_mk (shut_bool htb _) trodAll_mk0
 ·rw [List.append_nil,hspec]
  exact Zj1 hl hb _ _ _ _ hr hA hlt (fun x hx=>by simpa using hlt x hx)
 ·rw [List.append_nil,hspec,hvars]
  rfl
theorem ZAc {t:TypeId} {k:IntKind} {W:World} {r:Reach} {b0:Nat} {v:Value} {d:DataW H} {ps:List MemPlace} (ht:P.underlying t=some (.int k)) (hval:Value.okWide P W r b0 t v) (hd:DataW.Trod enc P W 0 (fun _=>true) true t v d ps) :
  ∃ n:Int,Rd (all W) W (.sc (.int k n)) v∧k.min≤n∧n≤k.max:=by
 obtain ⟨n,rfl,rfl,rfl,hw⟩:=open_int ht hval hd
 simp only [Lit.wf,Bool.and_eq_true,decide_eq_true_eq] at hw
 exact ⟨n,by simp [Rd],hw.1,hw.2⟩
theorem Zj2 {v:Value} {x:Value} (h:v.cells.toList=[x]) (hna:∀ cs,v≠.agg cs):v=x:=by
 cases v with
 | agg cs=>exact absurd rfl (hna cs)
 | _=>simpa [Value.cells] using h
theorem Zv5 {t e:TypeId} {W:World} {r:Reach} {b0:Nat} {v:Value} {d:DataW H} {ps:List MemPlace} (ht:P.underlying t=some (.slice e)) (he:P.underlying e=some (.int .u8)) (hc:P.cellsOf e=1)
  (hval:Value.okWide P W r b0 t v) (hd:DataW.Trod enc P W 0 (fun _=>true) true t v d ps) :
  ∃ (nl:Bool) (l:List UInt8),Rd (all W) W (.sl nl none (l.map u8)) v∧l.length≤maxLen∧(nl=true→l=[]):=by
 obtain ⟨fuel,hd⟩:=hd
 have hna:∀ cs,v≠.agg cs:=by
  rintro cs rfl
  simp [Value.okWide,ht,Cell.okWide,Cell.ok] at hval
 rcases open_ints ht he hc hd with ⟨h1,_⟩ | ⟨a,len,cap,zs,h1,_,hl,hm,hlen,_,hcell,hwf⟩
 ·have:=Zj2 h1 hna
  subst this
  refine ⟨true,[],?_,by simp,by simp⟩
  simp only [Rd]
  exact ⟨none,0,0,[],rfl,rfl,Nat.le_refl _,by simp [RdL],by simp,by simp,by simp⟩
 ·have:=Zj2 h1 hna
  subst this
  simp only [if_true] at hlen
  have hw8:∀ n∈zs,0≤n∧n≤255:=fun n hn=>by
   have:=hwf n hn
   simp only [Lit.wf,Bool.and_eq_true,decide_eq_true_eq] at this
   exact ⟨this.1,this.2⟩
  refine ⟨false,(zs.take len).map fun n=>UInt8.ofNat n.toNat,?_,by simp;omega,by simp⟩
  simp only [Rd]
  refine ⟨some a,len,cap,(zs.take len).map (Value.int .u8),rfl,by simp;omega,hl,?_,by simp,by simp,?_⟩
  ·refine RdL.of_get (by simp) fun i x v hx hv=>?_
   simp only [List.getElem?_map] at hx hv
   cases hi:(zs.take len)[i]? with
   | none=>rw [hi] at hv;simp at hv
   | some n =>
    rw [hi] at hx hv
    simp at hx hv
    subst hx;subst hv
    have:=hw8 n (List.mem_of_mem_take (List.mem_of_getElem? hi))
    simp only [u8,Rd]
    congr 1
    simp
    omega
  ·intro a' ha' hne
   cases ha'
   have h0:0<zs.length:=by
    rcases Nat.eq_zero_or_pos zs.length with h | h
    ·exact absurd (by rw [List.eq_nil_of_length_eq_zero h];simp) hne
    ·exact h
   have hc0:=hcell 0 h0
   have e0:a.add 0=a:=by simp [Addr.add]
   rw [e0] at hc0
   have hspot:a.spot=none:=by
    unfold World.cell? at hc0
    split at hc0
    ·split at hc0
     ·simp at hc0
     ·rename_i h;simpa using h
    ·simp at hc0
   refine ⟨hspot,?_,fun i v hv=>?_⟩
   ·unfold World.cell? at hc0
    split at hc0
    ·exact ZgL (by assumption)
    ·simp at hc0
   ·simp only [List.getElem?_map] at hv
    cases hi:(zs.take len)[i]? with
    | none=>rw [hi] at hv;simp at hv
    | some n =>
     rw [hi] at hv
     simp at hv
     subst hv
     refine ⟨rfl,fun j u hu=>?_⟩
     simp [Value.cells] at hu
     cases j with
     | succ j=>simp at hu
     | zero =>
      simp at hu;subst hu
      have hil:i<len:=by
       rcases Nat.lt_or_ge i (zs.take len).length with h | h
       ·simp at h;omega
       ·rw [List.getElem?_eq_none h] at hi;simp at hi
      have:=hcell i (by omega)
      rw [←Zi7 hspot,ZcG] at this
      rw [List.getElem?_take,if_pos hil] at hi
      simp only [List.getD,hi,Option.getD_some] at this
      simpa [esz] using this
end
end Go.Proofs.YtfplkgciebjehabGreatDoor.Aw
