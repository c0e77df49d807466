/- Parts of the proof of GzipUnpacks. -/
import Derived.Test.YtfplkgciebjehabGreatDoorQGzipUnpacksAR
namespace Go.Proofs.YtfplkgciebjehabGreatDoor.Aw
open Go
set_option linter.unusedSimpArgs false
set_option linter.unusedVariables false
section
variable {P:Program} [Tabs P] {w0:World} {M:Nat→Prop} {Z:Beg} {G:Gh} {st:ASt} {a:Act} {w:World}
def Zlv (bs:List (List Nat)):Array Oper:=(bs.map fun l=>({ (default:Oper) with after:=(l.map fun k=>(⟨k,.data⟩:Edge)).toArray }:Oper)).toArray
theorem Znv {bs:List (List Nat)} {i:Nat}:Zav (Zlv bs) i=bs.getD i []:=by
 simp only [Zav,Zlv]
 rw [List.getElem?_toArray,List.getElem?_map]
 cases h:bs[i]? with
 | none=>simp [List.getD,h]
 | some l =>
  simp only [Option.map_some,Option.getD_some,List.getD,h]
  rw [List.filter_eq_self.2]
  ·rw [List.map_map];exact List.map_id' _
  ·intro e he
   rw [List.mem_map] at he
   obtain ⟨k,_,rfl⟩:=he
   rfl
def Zqi (k:Nat):Nat:=if k=0 then 1 else if k=1 then 0 else k
theorem Zh5 (k:Nat):Zqi (Zqi k)=k:=by
 unfold Zqi
 split
 ·simp;omega
 ·split
  ·simp;omega
  ·simp [*]
def Ztj (ops:Array Oper) (n:Nat):List (List Nat):=(List.range n).map fun i=>if i=1 then [0] else Zav ops i
def Ztk (ops:Array Oper) (n:Nat):List (List Nat):=(List.range n).map fun i=>if i=0 then [] else if i=1 then [0] else (Zav ops i).map Zqi
def swL (sl:List SOper):List SOper:=match sl with
 | x::y::r=>y::x::r
 | l=>l
def ZzR (ops:Array Oper) (sl:List SOper):Bool :=
 decide (2≤sl.length)&&(Zav ops 0).isEmpty&&(Zav ops 1).isEmpty &&
 (List.range sl.length).all (fun i=>decide (i<2) || (Zav ops i).contains 0 || (Zav ops i).contains 1) &&
 ZhE (Zlv (Ztj ops sl.length)) sl&&ZhE (Zlv (Ztk ops sl.length)) (swL sl)
theorem ZqM {q:Bool} {ops:Array Oper} {x y:SOper} {r:List SOper} {K:ASt→Prop} {Q:Exit→Act→World→Prop} {id N:Nat} (hmix:P.follows .mixedOrders=true) (hsl:ops.toList.mapM (ZdB P N q ops)=some (x::y::r)) (hok:ZzR ops (x::y::r)=true)
  (hK:∀ st G a w,K st→R P w0 M Z G st a w→Q .normal a w) (hN:st.N=N) (hR:R P w0 M Z G st a w) (h:AOps P (x::y::r) K st) (h':AOps P (y::x::r) K st):(Code.region id ops true).wp P Q a w:=by
 simp only [ZzR,Bool.and_eq_true,List.isEmpty_iff] at hok
 obtain ⟨⟨⟨⟨⟨_,hb0⟩,hb1⟩,hbr⟩,hd1⟩,hd2⟩:=hok
 obtain ⟨hlen,hget⟩:=Zgf hsl
 have hn2:2≤ops.size:=by rw [←hlen];simp
 obtain ⟨n,hn⟩:∃ n,n=(x::y::r).length:=⟨_,rfl⟩
 rw [←hn] at hd1 hd2 hbr hlen
 have e1:∀ i,i<n→Zav (Zlv (Ztj ops n)) i=if i=1 then [0] else Zav ops i:=fun i hi=>by
  rw [Znv,Ztj];simp [List.getD,hi]
 have e2:∀ i,i<n→Zav (Zlv (Ztk ops n)) i=if i=0 then [] else if i=1 then [0] else (Zav ops i).map Zqi:=fun i hi=>by
  rw [Znv,Ztk];simp [List.getD,hi]
 have hl2:(swL (x::y::r)).length=n:=by rw [hn];rfl
 obtain ⟨k1,-⟩:=Zfs hd1
 obtain ⟨k2,-⟩:=Zfs hd2
 rw [←hn] at k1
 rw [hl2] at k2
 have kb:∀ i,i<ops.size→∀ k∈Zav ops i,k<i:=fun i hi k hk=>by
  by_cases c:i=1
  ·subst c;rw [hb1] at hk;simp at hk
  ·have:=k1 i (by omega) k
   rw [e1 i (by omega),if_neg c] at this
   exact this hk
 obtain ⟨f,hf0,hKf,hf⟩:=h.runs
 obtain ⟨f',hf0',hKf',hf'⟩:=h'.runs
 have hNm:∀ {ops':Array Oper} {l:List SOper} {ff:Nat→ASt} {D:Nat→Prop} {s:ASt},ff 0=st→Mid P ops' l ff D s→s.N=N:=fun e hm=>by rw [hm.N,e,hN]
 have hsl':∀ i,(swL (x::y::r))[Zqi i]? = (x::y::r)[i]?:=fun i=>by
  match i with
  | 0=>rfl
  | 1=>rfl
  | i+2=>simp [swL,Zqi]
 have hswn:∀ i,i<n→Zqi i<n:=fun i hi=>by unfold Zqi;split <;> (try split) <;> omega
 refine wp_region_any hmix ?_
 have hR':R P w0 M Z G st a { w with drawn:=w.drawn+1 }:=hR.heapEq rfl rfl rfl rfl
 refine Zoa (fun D a w=>∃ s G,R P w0 M Z G s a w∧(((∀ i,i<ops.size→¬ D i)∧s=st)∨(D 0∧Mid P (Zlv (Ztj ops n)) (x::y::r) f D s)∨(D 1∧Mid P (Zlv (Ztk ops n)) (swL (x::y::r)) f' (fun k=>D (Zqi k)) s)))
  kb ?_ ?_ ?_ ops.size (Array.replicate ops.size false) a _ (by simp) (by
  exact Nat.le_trans (List.length_filter_le _ _) (by simp)) ?_
 ·rintro D D' a w hDD ⟨s,G,hR,hc⟩
  refine ⟨s,G,hR,?_⟩
  rcases hc with ⟨c1,c2⟩ | ⟨c1,c2⟩ | ⟨c1,c2⟩
  ·exact .inl ⟨fun i hi hd=>c1 i hi ((hDD i hi).2 hd),c2⟩
  ·exact .inr (.inl ⟨(hDD 0 (by omega)).1 c1,c2.congr (by rw [←hn];exact k1) fun k hk=>hDD k (by rw [←hn] at hk;omega)⟩)
  ·exact .inr (.inr ⟨(hDD 1 (by omega)).1 c1,c2.congr (by rw [hl2];exact k2) fun k hk=>hDD _ (by rw [hl2] at hk;have:=hswn k hk;omega)⟩)
 ·rintro D a w i o ho ⟨s,G,hRs,hc⟩ hnd hr
  obtain ⟨u,hu,huo⟩:=hget i o ho
  have hio:i<ops.size:=(Array.getElem?_eq_some_iff.1 ho).1
  rcases hc with ⟨c1,rfl⟩ | ⟨c1,c2⟩ | ⟨c1,c2⟩
  ·have hi2:i<2:=by
    have:=List.all_eq_true.1 hbr i (List.mem_range.2 (by omega))
    simp only [Bool.or_eq_true,decide_eq_true_eq,List.contains_iff_mem] at this
    rcases this with (h | h) | h
    ·exact h
    ·exact absurd (hr 0 h) (c1 0 (by omega))
    ·exact absurd (hr 1 h) (c1 1 (by omega))
   have hno:∀ {ops':Array Oper} {l:List SOper} {ff:Nat→ASt},ff 0=s→(∀ i,i<l.length→∀ k∈Zav ops' i,k<i)→Mid P ops' l ff (fun _=>False) s:=fun e _=>by rw [←e];exact Zh4 _ fun _ h=>h
   match i,hu,hi2 with
   | 0,hu,_ =>
    have hm:=hno (ops':=Zlv (Ztj ops n)) (l:=x::y::r) hf0 (by rw [←hn];exact k1)
    refine wpOp_mono ?_ (ZbQ (Q:=Q) ho (by rw [hN];exact huo) hRs (Zix hd1 hf hm hu (fun h=>h) (fun k hk=>by rw [e1 0 (by omega),if_neg (by omega),hb0] at hk;simp at hk)))
    rintro a' w' ⟨s',G',hm',hR'⟩
    refine ⟨s',G',hR',.inr (.inl ⟨.inl rfl,hm'.congr (by rw [←hn];exact k1) fun k hk=>⟨?_,?_⟩⟩)⟩
    ·rintro (h | h)
     ·exact .inl h
     ·exact h.elim
    ·rintro (h | h)
     ·exact .inl h
     ·exact absurd h (c1 k (by rw [←hn] at hk;omega))
   | 1,hu,_ =>
    have hm:=hno (ops':=Zlv (Ztk ops n)) (l:=swL (x::y::r)) hf0' (by rw [hl2];exact k2)
    have hu':(swL (x::y::r))[0]? = some u:=by have:=hsl' 1;rw [hu] at this;exact this
    refine wpOp_mono ?_ (ZbQ (Q:=Q) ho (by rw [hN];exact huo) hRs (Zix hd2 hf' hm hu' (fun h=>h) (fun k hk=>by rw [e2 0 (by omega),if_pos rfl] at hk;simp at hk)))
    rintro a' w' ⟨s',G',hm',hR'⟩
    refine ⟨s',G',hR',.inr (.inr ⟨.inl rfl,hm'.congr (by rw [hl2];exact k2) fun k hk=>⟨?_,?_⟩⟩)⟩
    ·rintro (h | h)
     ·subst h;exact .inl rfl
     ·exact h.elim
    ·rintro (h | h)
     ·left
      have:=congrArg Zqi h
      rw [Zh5] at this
      exact this
     ·exact absurd h (c1 _ (by rw [hl2] at hk;have:=hswn k hk;omega))
  ·have hrr:∀ k∈Zav (Zlv (Ztj ops n)) i,D k:=fun k hk=>by
    rw [e1 i (by omega)] at hk
    split at hk
    ·simp only [List.mem_singleton] at hk;subst hk;exact c1
    ·exact hr k hk
   refine wpOp_mono ?_ (ZbQ (Q:=Q) ho (by rw [hNm hf0 c2];exact huo) hRs (Zix hd1 hf c2 hu hnd hrr))
   rintro a' w' ⟨s',G',hm',hR'⟩
   exact ⟨s',G',hR',.inr (.inl ⟨.inr c1,hm'⟩)⟩
  ·have hrr:∀ k∈Zav (Zlv (Ztk ops n)) (Zqi i),D (Zqi k):=fun k hk=>by
    rw [e2 _ (hswn i (by omega))] at hk
    match i with
    | 0=>simp [Zqi] at hk;subst hk;exact c1
    | 1=>exact absurd c1 hnd
    | i+2 =>
     simp [Zqi] at hk
     obtain ⟨m,hm,rfl⟩:=hk
     have:Zqi (if m=0 then 1 else if m=1 then 0 else m)=m:=Zh5 m
     rw [this]
     exact hr m hm
   refine wpOp_mono ?_ (ZbQ (Q:=Q) ho (by rw [hNm hf0' c2];exact huo) hRs (Zix hd2 hf' c2 (by rw [hsl'];exact hu) (by rw [Zh5];exact hnd) hrr))
   rintro a' w' ⟨s',G',hm',hR'⟩
   refine ⟨s',G',hR',.inr (.inr ⟨.inr c1,hm'.congr (by rw [hl2];exact k2) fun k hk=>⟨?_,?_⟩⟩)⟩
   ·rintro (h | h)
    ·left;rw [h,Zh5]
    ·exact .inr h
   ·rintro (h | h)
    ·left;rw [←h,Zh5]
    ·exact .inr h
 ·rintro D a w hall ⟨s,G,hR,hc⟩
  rcases hc with ⟨c1,_⟩ | ⟨_,hm⟩ | ⟨_,hm⟩
  ·exact absurd (hall 0 (by omega)) (c1 0 (by omega))
  ·have:=ZkI hf hm fun i hi=>hall i (by rw [←hn] at hi;omega)
   rw [this] at hR
   exact hK _ _ _ _ hKf hR
  ·have:=ZkI hf' hm fun i hi=>hall _ (by have hi:i<(swL (x::y::r)).length:=hi;rw [hl2] at hi;have:=hswn i hi;omega)
   rw [this] at hR
   exact hK _ _ _ _ hKf' hR
 ·refine ⟨st,G,hR',.inl ⟨fun i _=>?_,rfl⟩⟩
  show ¬ ((Array.replicate ops.size false).getD i false=true)
  rw [Array.getD_eq_getD_getElem?,Array.getElem?_replicate]
  split <;> simp
end
end Go.Proofs.YtfplkgciebjehabGreatDoor.Aw
