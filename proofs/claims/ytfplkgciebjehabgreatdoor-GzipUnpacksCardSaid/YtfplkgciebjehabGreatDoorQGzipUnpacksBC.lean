/- Parts of the proof of GzipUnpacks. -/
import Derived.Test.YtfplkgciebjehabGreatDoorQGzipUnpacksBB
namespace Go.Proofs.YtfplkgciebjehabGreatDoor.Aw
open Go
set_option linter.unusedSimpArgs false
set_option linter.unusedVariables false
set_option linter.unusedSimpArgs false
set_option linter.unusedVariables false
def AO.fzo (id g:Nat) (nl:Bool) (cells:List AV):AO→AO
 | .row nl' cs=>.row nl' (Aw.fzo.fzoL id g nl cells cs)
def fzH (id g:Nat) (nl:Bool) (cells:List AV) (hp:Hp):Hp:=fun i=>if i=id then none else match hp i with
 | some (k,o)=>some (k,o.fzo id g nl cells)
 | none=>none
theorem SWp.frzo {P:Program} [Tabs P] {Q:Ex→ASt→Prop} {st:ASt} {c:SCode} (id g:Nat) {nl:Bool} {cells:List AV} (hid:st.hp id=some (g,.row nl cells)) (hfree:AV.free.freeL cells=true)
  (h:SWp P c Q ⟨fun t=>fzo id g nl cells (st.tm t),fzH id g nl cells st.hp,st.gc,st.N⟩):SWp P c Q st:=by
 intro hm code hc w0 M Z G a w hR
 have hH:=hR.heap
 have one:∀ b,G.ob id g=some (some b)→(w0.heap.size≤b∨M b)∧b<w.heap.size:=fun b hb=>by
  obtain ⟨⟨nl',cells'⟩,ho⟩:=hH.live _ _ _ hb
  obtain ⟨ob,k1,_,_,k4⟩:=hH.row _ _ _ _ ho
  rw [hb] at k1;cases k1
  obtain ⟨_,q2,_,_,q3⟩:=k4 b rfl
  exact ⟨q2,q3.lt⟩
 refine h hm code hc w0 M Z (G1 G id g) a w ⟨hR.keep,⟨?_,?_,?_,?_,?_⟩,hR.size,?_,?_,hR.defers,?_,⟨fun b hb=>.inl (hR.ext.S b hb),hR.ext.cells,hR.ext.shape,?_⟩,hR.lc,hR.lc1,hR.tabs.mono (fun _ h=>.inl h) (fun _ _=>rfl)⟩
 ·rintro b (hb | hb)
  ·exact hH.lt b hb
  ·exact (one b hb).2
 ·intro i k ob ho
  simp only [G1] at ho
  split at ho
  ·simp at ho
  ·rename_i e
   obtain ⟨o,h1⟩:=hH.live _ _ _ ho
   exact ⟨o.fzo id g nl cells,by simp only [fzH];rw [if_neg e,h1]⟩
 ·intro i k nl' cells' ho
  simp only [fzH] at ho
  split at ho
  ·simp at ho
  ·cases hx:st.hp i with
   | none=>rw [hx] at ho;simp at ho
   | some p =>
    obtain ⟨k',nl'',cells''⟩:=p
    rw [hx] at ho
    simp only [AO.fzo,Option.some.injEq,Prod.mk.injEq,AO.row.injEq] at ho
    obtain ⟨rfl,rfl,rfl⟩:=ho
    obtain ⟨q1,q2⟩:=hH.gl _ _ _ _ hx
    exact ⟨q1,Zmc hfree _ q2⟩
 ·intro i k i' k' b h1 h2
  simp only [G1] at h1 h2
  split at h1
  ·simp at h1
  ·split at h2
   ·simp at h2
   ·exact hH.inj _ _ _ _ _ h1 h2
 ·intro i k nl' cells' ho
  simp only [fzH] at ho
  split at ho
  ·simp at ho
  ·rename_i e
   cases hx:st.hp i with
   | none=>rw [hx] at ho;simp at ho
   | some p =>
    obtain ⟨k',nl'',cells''⟩:=p
    rw [hx] at ho
    simp only [AO.fzo,Option.some.injEq,Prod.mk.injEq,AO.row.injEq] at ho
    obtain ⟨rfl,rfl,rfl⟩:=ho
    obtain ⟨ob,k1,k2,k3,k4⟩:=hH.row _ _ _ _ hx
    refine ⟨ob,by simp [G1,e,k1],k2,fun e=>by rw [k3 e];rfl,fun b hb=>?_⟩
    obtain ⟨q1,q2,us,q4,q3⟩:=k4 b hb
    refine ⟨?_,q2,us,Zfh hH hid hfree _ _ (hH.gl _ _ _ _ hx).2 q4,q3⟩
    rintro (h | h)
    ·exact q1 h
    ·exact e (hH.inj _ _ _ _ _ (by rw [k1,hb]) h)
 ·intro t
  exact Zpc hH hid hfree _ _ (hR.gl t) (hR.tm t)
 ·intro t
  exact Zzs hfree _ (hR.gl t)
 ·rintro b (hb | hb)
  ·exact hR.fr b hb
  ·exact .inr (one b hb).1
 ·intro i k ob hg ho
  simp only [G1] at ho
  split at ho
  ·simp at ho
  ·exact hR.ext.ob _ _ _ hg ho
theorem Zmt {G:Gh} {w:World} {c id g:Nat} {nl:Bool} {cells cells':List AV} {M:Nat→Prop} {hp:Hp} (hH:Heap c M G hp w) (hid:hp id=some (g,.row nl cells)) (hgl:AV.gl.glL c cells') (hnil:cells=[]→cells'=[])
  (hrd:∀ vs,RdL G w cells vs→RdL G w cells' vs):Heap c M G (Za8 hp id (some (g,.row nl cells'))) w:=by
 refine ⟨hH.lt,?_,?_,hH.inj,?_⟩
 ·intro i k ob ho
  obtain ⟨o,h1⟩:=hH.live _ _ _ ho
  unfold Za8
  by_cases e:i=id
  ·subst e
   rw [hid] at h1
   cases h1
   rw [if_pos rfl];exact ⟨_,rfl⟩
  ·rw [if_neg e];exact ⟨o,h1⟩
 ·intro i k nl' cs ho
  unfold Za8 at ho
  by_cases e:i=id
  ·subst e
   rw [if_pos rfl] at ho
   simp only [Option.some.injEq,Prod.mk.injEq,AO.row.injEq] at ho
   obtain ⟨rfl,rfl,rfl⟩:=ho
   exact ⟨(hH.gl _ _ _ _ hid).1,hgl⟩
  ·rw [if_neg e] at ho;exact hH.gl _ _ _ _ ho
 ·intro i k nl' cs ho
  unfold Za8 at ho
  by_cases e:i=id
  ·subst e
   rw [if_pos rfl] at ho
   simp only [Option.some.injEq,Prod.mk.injEq,AO.row.injEq] at ho
   obtain ⟨rfl,rfl,rfl⟩:=ho
   obtain ⟨ob,k1,k2,k3,k4⟩:=hH.row _ _ _ _ hid
   refine ⟨ob,k1,k2,fun e=>hnil (k3 e),fun b hb=>?_⟩
   obtain ⟨q1,q2,us,q4,q3⟩:=k4 b hb
   exact ⟨q1,q2,us,hrd _ q4,q3⟩
  ·rw [if_neg e] at ho;exact hH.row _ _ _ _ ho
theorem SWp.adoptC {P:Program} [Tabs P] {Q:Ex→ASt→Prop} {st:ASt} {c:SCode} (id g j d:Nat) (es:Option Nat) {nl:Bool} {cells:List AV} (hid:st.hp id=some (g,.row nl cells)) (hj:cells[j]? = some (.sc (.slice none 0 0))) (hd:d≠id)
  (h:SWp P c Q ⟨st.tm,Za8 (Za8 st.hp d (some (st.gc,.row true []))) id (some (g,.row nl (cells.set j (.own d st.gc es 0 0)))),st.gc+1,st.N⟩):SWp P c Q st:=by
 intro hm code hc w0 M Z G a w hR
 obtain ⟨G',hE,hH',hx,hg,_,_,hS⟩:=Zmb hR.heap d es
 have hid':Za8 st.hp d (some (st.gc,.row true [])) id=some (g,.row nl cells):=by
  unfold Za8;rw [if_neg (fun e=>hd e.symm)];exact hid
 have hgl:=(hR.heap.gl _ _ _ _ hid).2
 have hjl:j<cells.length:=(List.getElem?_eq_some_iff.1 hj).1
 have hH2:=Zmt hH' hid' (cells':=cells.set j (.own d st.gc es 0 0)) (by
   rw [Zdx]
   intro x hx'
   rcases List.mem_or_eq_of_mem_set hx' with h | rfl
   ·exact Zhf (Nat.le_succ _) _ (Zdx.1 hgl x h)
   ·simp [AV.gl])
  (by intro e;subst e;simp at hjl) (by
   intro vs hvs
   have hv:vs[j]? = some (.slice none 0 0):=by
    obtain ⟨v,h1,h2⟩:=hvs.get j _ hj
    have:=h2.sc_inv;subst this;exact h1
   have e:vs=vs.set j (.slice none 0 0):=by
    apply List.ext_getElem?
    intro i
    rw [List.getElem?_set]
    split
    ·rename_i e;subst e
     split
     ·exact hv
     ·rename_i hn;rw [List.getElem?_eq_none zO] at hv;simp at hv
    ·rfl
   rw [e]
   exact hvs.set hx)
 refine h hm code hc w0 M Z G' a w ⟨hR.keep,hH2,hR.size,?_,?_,hR.defers,?_,hR.ext.trans hR.lc hE,Nat.le_trans hR.lc (Nat.le_succ _),hR.lc1,hR.tabs.mono hE.S hE.cells⟩
 ·intro u
  exact Rd.mono hE _ _ (hR.gl u) (hR.tm u)
 ·intro u
  exact Zhf (Nat.le_succ _) _ (hR.gl u)
 ·intro b hb
  rcases hS b hb with h | h
  ·exact hR.fr b h
  ·exact .inr (h.elim (fun h=>.inl (Nat.le_trans hR.keep.size h)) (fun h=>h))
def rgn (id g c:Nat):Nat→Nat→Nat × Nat:=fun i k=>(i,if i=id then (if k=g then c else if k=c then g else k) else k)
theorem ZbN {id g c i k:Nat}:rgn id g c i k=(i,if i=id then (if k=g then c else if k=c then g else k) else k):=rfl
def rgH (id g c:Nat) (hp:Hp):Hp:=fun i=>match hp i with
 | some (k,o)=>some ((rgn id g c i k).2,o.ren (rgn id g c))
 | none=>none
theorem ZbO {id g c i:Nat} {hp:Hp}:rgH id g c hp i=match hp i with
 | some (k,o)=>some ((rgn id g c i k).2,o.ren (rgn id g c))
 | none=>none:=rfl
theorem Zrf (id g c i k:Nat):(rgn id g c i (rgn id g c i k).2).2=k:=by
 simp only [rgn]
 by_cases e:i=id
 ·simp only [if_pos e]
  by_cases h:k=g
  ·subst h;simp only [if_true];by_cases h':c=k
   ·simp [h']
   ·simp [h']
  ·by_cases h':k=c
   ·subst h';simp [h]
   ·simp [h,h']
 ·simp [e]
theorem SWp.renew {P:Program} [Tabs P] {Q:Ex→ASt→Prop} {st:ASt} {c:SCode} (id g:Nat) {o:AO} (hid:st.hp id=some (g,o))
  (h:SWp P c Q ⟨fun t=>ren (rgn id g st.gc) (st.tm t),rgH id g st.gc st.hp,st.gc+1,st.N⟩):SWp P c Q st:=by
 intro hm code hc w0 M Z G a w hR
 have hH:=hR.heap
 have hgc:g<st.gc:=by cases o with | row nl cells=>exact (hH.gl _ _ _ _ hid).1
 have hlt:∀ i k,k<st.gc→(rgn id g st.gc i k).2<st.gc+1:=by
  intro i k hk
  simp only [rgn]
  split
  ·split
   ·omega
   ·split <;> omega
  ·omega
 have hob:∀ i k ob,(⟨G.S,fun i k=>G.ob i (rgn id g st.gc i k).2⟩:Gh).ob (rgn id g st.gc i k).1 (rgn id g st.gc i k).2=some ob→G.ob i k=some ob:=fun i k ob ho=>by
  have:(rgn id g st.gc i k).1=i:=rfl
  rw [this] at ho
  simp only [Zrf] at ho
  exact ho
 have hS:false=false→∀ b,G.S b→G.S b:=fun _ _ h=>h
 refine h hm code hc w0 M Z ⟨G.S,fun i k=>G.ob i (rgn id g st.gc i k).2⟩ a w ⟨hR.keep,⟨hH.lt,?_,?_,?_,?_⟩,hR.size,?_,?_,hR.defers,hR.fr,⟨hR.ext.S,hR.ext.cells,hR.ext.shape,?_⟩,Nat.le_trans hR.lc (Nat.le_succ _),hR.lc1,hR.tabs⟩
 ·intro i k ob ho
  obtain ⟨o',h1⟩:=hH.live _ _ _ ho
  refine ⟨o'.ren (rgn id g st.gc),?_⟩
  simp only [rgH];rw [h1];simp only [Zrf]
 ·intro i k nl cells ho
  simp only [rgH] at ho
  cases hx:st.hp i with
  | none=>rw [hx] at ho;simp at ho
  | some p =>
   obtain ⟨k',nl',cells'⟩:=p
   rw [hx] at ho
   simp only [AO.ren,Option.some.injEq,Prod.mk.injEq,AO.row.injEq] at ho
   obtain ⟨rfl,rfl,rfl⟩:=ho
   obtain ⟨q1,q2⟩:=hH.gl _ _ _ _ hx
   exact ⟨hlt _ _ q1,Zh3 hlt _ q2⟩
 ·intro i k i' k' b h1 h2
  exact hH.inj _ _ _ _ _ h1 h2
 ·intro i k nl cells ho
  simp only [rgH] at ho
  cases hx:st.hp i with
  | none=>rw [hx] at ho;simp at ho
  | some p =>
   obtain ⟨k',nl',cells'⟩:=p
   rw [hx] at ho
   simp only [AO.ren,Option.some.injEq,Prod.mk.injEq,AO.row.injEq] at ho
   obtain ⟨rfl,rfl,rfl⟩:=ho
   obtain ⟨ob,k1,k2,k3,k4⟩:=hH.row _ _ _ _ hx
   refine ⟨ob,by simp only [Zrf];exact k1,k2,fun e=>by rw [k3 e];rfl,fun b hb=>?_⟩
   obtain ⟨q1,q2,us,q4,q3⟩:=k4 b hb
   exact ⟨q1,q2,us,RdL.ren (G:=G) (G':=⟨G.S,fun i k=>G.ob i (rgn id g st.gc i k).2⟩) (ρ:=rgn id g st.gc) (B:=false) hS hob _ _ zB q4,q3⟩
 ·intro t
  exact Rd.ren (G:=G) (G':=⟨G.S,fun i k=>G.ob i (rgn id g st.gc i k).2⟩) (ρ:=rgn id g st.gc) (B:=false) hS hob _ _ zB (hR.tm t)
 ·intro t
  exact Zpd hlt _ (hR.gl t)
 ·intro i k ob hk ho
  have hl:=hR.lc
  simp only [rgn] at ho
  by_cases e:i=id
  ·rw [if_pos e] at ho
   by_cases e1:k=g
   ·rw [if_pos e1] at ho
    obtain ⟨⟨nl,cells⟩,h1⟩:=hH.live _ _ _ ho
    have:=(hH.gl _ _ _ _ h1).1
    omega
   ·rw [if_neg e1,if_neg zO] at ho
    exact hR.ext.ob _ _ _ hk ho
  ·rw [if_neg e] at ho
   exact hR.ext.ob _ _ _ hk ho
section
variable {id g:Nat} {nl:Bool} {cells:List AV}
theorem ZCA {v:Value}:fzo id g nl cells (.sc v) = .sc v:=rfl
theorem ZAI {c:UInt32}:fzo id g nl cells (w32 c)=w32 c:=rfl
theorem ZyJ:fzo id g nl cells .junk = .junk:=rfl
theorem ZCB {n:Bool} {es:Option Nat} {xs:List AV}:fzo id g nl cells (.sl n es xs) = .sl n es xs:=rfl
theorem ZCC {y:AV} {o:Nat}:fzo id g nl cells (.fp y o) = .fp y o:=rfl
theorem ZAJ {xs:List AV}:fzo id g nl cells (.agg xs) = .agg (fzo.fzoL id g nl cells xs):=rfl
theorem ZAK {xs:List AV}:fzo id g nl cells (.tup xs) = .tup (fzo.fzoL id g nl cells xs):=rfl
theorem Zrg {i k lo n:Nat} {es:Option Nat}:fzo id g nl cells (.own i k es lo n)=if i=id∧k=g then (if lo+n*esz es≤cells.length then .sl nl es (chunks es n (cells.drop lo)) else .junk) else .own i k es lo n:=rfl
theorem Zzu {i k off:Nat}:fzo id g nl cells (.op i k off)=if i=id∧k=g then .fp (.agg cells) off else .op i k off:=rfl
theorem ZyK:fzo.fzoL id g nl cells []=[]:=rfl
theorem Zwh {x:AV} {xs:List AV}:fzo.fzoL id g nl cells (x::xs)=fzo id g nl cells x::fzo.fzoL id g nl cells xs:=rfl
theorem ZAL {l:List UInt8}:fzo.fzoL id g nl cells (l.map u8)=l.map u8:=Zcg _ Zag
theorem ZAM {l:List UInt32}:fzo.fzoL id g nl cells (l.map w32)=l.map w32:=Zcg _ ZkL
theorem ZCD {hp:Hp} {i:Nat}:fzH id g nl cells hp i=if i=id then none else match hp i with
 | some (k,o)=>some (k,o.fzo id g nl cells)
 | none=>none:=rfl
theorem ZCE {n:Bool} {cs:List AV}:(AO.row n cs).fzo id g nl cells = .row n (fzo.fzoL id g nl cells cs):=rfl
end
theorem HCon.con {P:Program} [Tabs P] {f:Nat} {ins:List AV} {out:AV} {hout:List (Nat × Nat × AO)} {k:Nat} (h:HCon P f ins [] out hout k) (out':AV) (ho:frz (ZcR hout) out=out') (hfree:out'.free=true):Con P f ins out':=by
 intro w S vs htab hlt hrd
 have hH:Heap 1 (fun _=>False) ⟨S,fun _ _=>none⟩ (Znd []) w:=by
  refine ⟨hlt,?_,?_,?_,?_⟩
  ·intro id g ob ho;simp at ho
  ·intro id g nl cells ho;simp [Znd] at ho
  ·intro id g id' g' b ho;simp at ho
  ·intro id g nl cells ho;simp [Znd] at ho
 refine (h.2.2 w ⟨S,fun _ _=>none⟩ (fun _=>False) vs htab hH hrd).mono ?_
 rintro e w' ⟨v,G',rfl,hk,hE,hH',hr,hg,hS⟩
 refine ⟨v,(GF G').S,rfl,hk,fun b hb=>.inl (hE.S b hb),?_,?_,hfree,?_⟩
 ·rintro b (hb | ⟨id,g,hb⟩)
  ·rcases hS b hb with h | h | h
   ·exact .inl h
   ·exact .inr h
   ·exact h.elim
  ·obtain ⟨⟨nl,cells⟩,ho⟩:=hH'.live _ _ _ hb
   obtain ⟨ob,k1,_,_,k4⟩:=hH'.row _ _ _ _ ho
   rw [hb] at k1;cases k1
   obtain ⟨_,q2,_⟩:=k4 b rfl
   rcases q2 with q | q
   ·exact .inr q
   ·exact q.elim
 ·rintro b (hb | ⟨id,g,hb⟩)
  ·exact hH'.lt b hb
  ·obtain ⟨⟨nl,cells⟩,ho⟩:=hH'.live _ _ _ hb
   obtain ⟨ob,k1,_,_,k4⟩:=hH'.row _ _ _ _ ho
   rw [hb] at k1;cases k1
   obtain ⟨_,_,_,_,q3⟩:=k4 b rfl
   exact q3.lt
 ·have:=Zfn hH' _ _ hg hr
  rw [ho] at this
  exact this
end Go.Proofs.YtfplkgciebjehabGreatDoor.Aw
