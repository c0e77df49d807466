/- Parts of the proof of GzipUnpacks. -/
import Derived.Test.YtfplkgciebjehabGreatDoorQGzipUnpacksBC
namespace Go.Proofs.YtfplkgciebjehabGreatDoor.Aw
open Go
set_option linter.unusedSimpArgs false
set_option linter.unusedVariables false
set_option linter.unusedSimpArgs false
set_option linter.unusedVariables false
def Zsk (d m:Nat) (gs ns:Nat→Nat):List AV:=(List.range m).map fun i=>.own (d+i) (gs i) none 0 (ns i)
theorem Zbc {d m:Nat} {gs ns:Nat→Nat}:(Zsk d m gs ns).length=m:=by simp [Zsk]
theorem Zwo {d m:Nat} {gs ns:Nat→Nat}:Zsk d (m+1) gs ns=Zsk d m gs ns++[.own (d+m) (gs m) none 0 (ns m)]:=by simp [Zsk,List.range_succ]
theorem Zos {d m:Nat} {gs ns:Nat→Nat} {i:Nat} (h:i<m):(Zsk d m gs ns)[i]? = some (.own (d+i) (gs i) none 0 (ns i)):=by simp [Zsk,h]
def adH (id g d gc m n:Nat) (nl:Bool) (pre post:List AV) (hp:Hp):Hp:=fun i =>
 if i=id then some (g,.row nl (pre++(Zsk d m (fun j=>gc+j) (fun _=>0)++List.replicate (n-m) (AV.sc (.slice none 0 0)))++post))
 else if d≤i∧i<d+m then some (gc+(i-d),.row true []) else hp i
theorem SWp.adoptN {P:Program} [Tabs P] {Q:Ex→ASt→Prop} {c:SCode} {tm:Nat→AV} {hp:Hp} {gc N:Nat} (id g d n:Nat) {nl:Bool} {pre post:List AV} (hd:id<d)
  (hid:hp id=some (g,.row nl (pre++List.replicate n (AV.sc (.slice none 0 0))++post)))
  (h:SWp P c Q ⟨tm,adH id g d gc n n nl pre post hp,gc+n,N⟩):SWp P c Q ⟨tm,hp,gc,N⟩:=by
 have key:∀ m,m≤n→SWp P c Q ⟨tm,adH id g d gc m n nl pre post hp,gc+m,N⟩:=by
  intro m hm
  obtain ⟨k,hk⟩:∃ k,k=n-m:=⟨_,rfl⟩
  induction k generalizing m with
  | zero =>
   obtain rfl:m=n:=zO
   exact h
  | succ k ih =>
   have hlt:m<n:=zO
   have ih:=ih (m+1) zO zO
   have hrep:List.replicate (n-m) (AV.sc (.slice none 0 0)) = .sc (.slice none 0 0)::List.replicate (n-(m+1)) (AV.sc (.slice none 0 0)):=by
    rw [show n-m=(n-(m+1))+1 by omega,List.replicate_succ]
   refine SWp.adoptC (st:=⟨tm,adH id g d gc m n nl pre post hp,gc+m,N⟩) id g (pre.length+m) (d+m) none
    (nl:=nl) (cells:=pre++(Zsk d m (fun j=>gc+j) (fun _=>0)++List.replicate (n-m) (AV.sc (.slice none 0 0)))++post) (by simp [adH]) ?_ zO ?_
   ·rw [hrep,List.getElem?_append_left (by simp [Zbc] <;> omega),List.getElem?_append_right zO,List.getElem?_append_right (by rw [Zbc];omega),Zbc]
    simp
   ·have e:Za8 (Za8 (adH id g d gc m n nl pre post hp) (d+m) (some (gc+m,.row true []))) id (some (g,.row nl ((pre++(Zsk d m (fun j=>gc+j) (fun _=>0)++List.replicate (n-m) (AV.sc (.slice none 0 0)))++post).set (pre.length+m) (.own (d+m) (gc+m) none 0 0))))=adH id g d gc (m+1) n nl pre post hp:=by
     funext i
     simp only [Za8,adH]
     by_cases e1:i=id
     ·rw [if_pos e1,if_pos e1]
      congr 3
      rw [hrep,List.set_append_left _ _ (by simp [Zbc] <;> omega),List.set_append_right _ _ zO,List.set_append_right _ _ (by rw [Zbc];omega),Zbc,Zwo]
      simp
     ·rw [if_neg e1,if_neg e1,if_neg e1]
      by_cases e2:i=d+m
      ·rw [if_pos e2,if_pos zO,show i-d=m by omega]
      ·rw [if_neg e2]
       by_cases e3:d≤i∧i<d+m
       ·rw [if_pos e3,if_pos zO]
       ·rw [if_neg e3,if_neg zO]
    have e':=e
    simp only at ih ⊢
    rw [e]
    exact ih
 have h0:=key 0 (Nat.zero_le _)
 have e:adH id g d gc 0 n nl pre post hp=hp:=by
  funext i
  simp only [adH]
  by_cases e1:i=id
  ·subst e1;rw [if_pos rfl,hid];simp [Zsk]
  ·rw [if_neg e1,if_neg zO]
 rw [e] at h0
 exact h0
theorem ZlS {id g:Nat} {nl:Bool} {cells:List AV}:∀ (xs:List AV),fzo.fzoL id g nl cells xs=xs.map (fzo id g nl cells)
 | []=>rfl
 | x::xs=>by simp only [fzo.fzoL,List.map_cons,ZlS xs]
def ZBG (d m n:Nat) (gs:Nat→Nat) (ls:Nat→Bool) (xs:Nat→List AV):List AV:=(List.range n).map fun i=>if i<m then .sl (ls i) none (xs i) else .own (d+i) (gs i) none 0 (xs i).length
def Zwp (id g d m n:Nat) (gs:Nat→Nat) (ls:Nat→Bool) (xs:Nat→List AV) (nl:Bool) (pre post:List AV):Hp:=fun i =>
 if i=id then some (g,.row nl (pre++ZBG d m n gs ls xs++post)) else if d+m≤i∧i<d+n then some (gs (i-d),.row (ls (i-d)) (xs (i-d))) else none
theorem SWp.frzN {P:Program} [Tabs P] {Q:Ex→ASt→Prop} {c:SCode} {tm:Nat→AV} {hp:Hp} {gc N:Nat} (id g d n:Nat) {nl:Bool} {pre post:List AV} {gs:Nat→Nat} {ls:Nat→Bool} {xs:Nat→List AV} (hd:id<d)
  (hid:hp id=some (g,.row nl (pre++ZBG d 0 n gs ls xs++post))) (hob:∀ i,i<n→hp (d+i)=some (gs i,.row (ls i) (xs i))) (hfree:∀ i,i<n→AV.free.freeL (xs i)=true)
  (hpre:AV.free.freeL pre=true) (hpost:AV.free.freeL post=true) (htm:∀ t i,i<n→fzo (d+i) (gs i) (ls i) (xs i) (tm t)=tm t)
  (h:SWp P c Q ⟨tm,Zwp id g d n n gs ls xs nl pre post,gc,N⟩):SWp P c Q ⟨tm,hp,gc,N⟩:=by
 have key:∀ m,m≤n→SWp P c Q ⟨tm,Zwp id g d m n gs ls xs nl pre post,gc,N⟩:=by
  intro m hm
  obtain ⟨k,hk⟩:∃ k,k=n-m:=⟨_,rfl⟩
  induction k generalizing m with
  | zero =>
   obtain rfl:m=n:=zO
   exact h
  | succ k ih =>
   have hlt:m<n:=zO
   have ih:=ih (m+1) zO zO
   refine SWp.frzo (st:=⟨tm,Zwp id g d m n gs ls xs nl pre post,gc,N⟩) (d+m) (gs m) (nl:=ls m) (cells:=xs m) ?_ (hfree m hlt) ?_
   ·simp only [Zwp]
    rw [if_neg zO,if_pos zO,show d+m-d=m by omega]
   ·have e1:(fun t=>fzo (d+m) (gs m) (ls m) (xs m) (tm t))=tm:=funext fun t=>htm t m hlt
    have e2:fzH (d+m) (gs m) (ls m) (xs m) (Zwp id g d m n gs ls xs nl pre post)=Zwp id g d (m+1) n gs ls xs nl pre post:=by
     funext i
     simp only [fzH,Zwp]
     by_cases q:i=d+m
     ·rw [if_pos q,if_neg zO,if_neg zO]
     ·rw [if_neg q]
      by_cases q1:i=id
      ·rw [if_pos q1,if_pos q1]
       simp only [AO.fzo,Option.some.injEq,Prod.mk.injEq,AO.row.injEq,true_and]
       rw [ZlS,List.map_append,List.map_append,←ZlS,←ZlS post,Zcg _ hpre,Zcg _ hpost]
       congr 2
       simp only [ZBG,List.map_map]
       refine List.map_congr_left fun j hj=>?_
       have hj:=List.mem_range.1 hj
       simp only [Function.comp]
       by_cases a:j<m
       ·rw [if_pos a,if_pos zO];rfl
       ·rw [if_neg a]
        by_cases b:j=m
        ·subst b
         rw [if_pos zO,Zrg,if_pos ⟨rfl,rfl⟩,if_pos (by simp [esz])]
         simp [chunks]
        ·rw [if_neg zO,Zrg,if_neg zO]
      ·rw [if_neg q1,if_neg q1]
       by_cases q2:d+m≤i∧i<d+n
       ·rw [if_pos q2,if_pos zO]
        simp only [AO.fzo]
        rw [Zcg _ (hfree _ zO)]
       ·rw [if_neg q2,if_neg zO]
    simp only at ih ⊢
    rw [e1,e2]
    exact ih
 refine SWp.le (st':=⟨tm,Zwp id g d 0 n gs ls xs nl pre post,gc,N⟩) ⟨fun t=>.inl rfl,fun i=>?_,Nat.le_refl _,rfl⟩ (key 0 (Nat.zero_le _))
 simp only [Zwp]
 by_cases q1:i=id
 ·subst q1;rw [if_pos rfl,hid];exact .inl rfl
 ·rw [if_neg q1]
  by_cases q2:d+0≤i∧i<d+n
  ·rw [if_pos q2]
   have:=hob (i-d) zO
   rw [show d+(i-d)=i by omega] at this
   rw [this];exact .inl rfl
  ·rw [if_neg q2];exact .inr rfl
theorem SWp.cut {P:Program} [Tabs P] {Q:Ex→ASt→Prop} {st:ASt} {c:SCode} (id k:Nat) {g:Nat} {nl:Bool} {cells:List AV} (hid:st.hp id=some (g,.row nl cells))
  (h:SWp P c Q ⟨st.tm,Za8 st.hp id (some (g,.row nl (cells.take k))),st.gc,st.N⟩):SWp P c Q st:=by
 intro hm code hc w0 M Z G a w hR
 have hH:=hR.heap
 refine h hm code hc w0 M Z G a w { hR with heap:=⟨hH.lt,fun i j ob ho=>?_,fun i j nl' cells' hi=>?_,hH.inj,fun i j nl' cells' hi=>?_⟩ }
 ·obtain ⟨o,ho'⟩:=hH.live _ _ _ ho
  simp only [Za8]
  split
  ·rename_i e
   subst e
   rw [hid] at ho'
   cases ho'
   exact ⟨_,rfl⟩
  ·exact ⟨o,ho'⟩
 ·simp only [Za8] at hi
  split at hi
  ·rename_i e
   subst e
   cases hi
   obtain ⟨p,q⟩:=hH.gl _ _ _ _ hid
   exact ⟨p,Zcy q⟩
  ·exact hH.gl _ _ _ _ hi
 ·simp only [Za8] at hi
  split at hi
  ·rename_i e
   subst e
   cases hi
   obtain ⟨ob,h1,h2,h3,h4⟩:=hH.row _ _ _ _ hid
   refine ⟨ob,h1,h2,fun e=>by rw [h3 e];simp,fun b hb=>?_⟩
   obtain ⟨k1,k2,vs,k4,k3⟩:=h4 b hb
   refine ⟨k1,k2,vs.take k,k4.take k,?_⟩
   rcases k3 with ⟨cs,E,k3,k5,k6⟩ | ⟨es,ck,k3,k5,k6⟩
   ·refine .inl ⟨cs,E,k3,fun j v hv=>k5 j v ?_,fun v hv=>k6 v (List.mem_of_mem_take hv)⟩
    rw [List.getElem?_take] at hv
    split at hv
    ·exact hv
    ·simp at hv
   ·refine .inr ⟨es,ck,k3,?_,k6⟩
    rcases k5 with rfl | rfl
    ·cases k <;> simp
    ·simp
  ·exact hH.row _ _ _ _ hi
def toQ (F:ASt):Ex→ASt→Prop
 | .normal,s=>Le s F
 | _,_=>False
theorem SWp.to {P:Program} [Tabs P] {Q:Ex→ASt→Prop} {st F:ASt} {x y:SCode} (h:SWp P x (toQ F) st) (h2:SWp P y Q F):SWp P (.seq x y) Q st :=
 SWp.seq (h.mono fun e s _ hq=>by
  cases e with
  | normal=>exact SWp.le hq h2
  | exit i=>exact hq.elim
  | ret=>exact hq.elim)
theorem SWp.toT {P:Program} [Tabs P] {Q:Ex→ASt→Prop} {st F:ASt} {x y:SCode} (h:SWp P x (toQ F) st) (h2:SWp P y Q F):SWp P x (thn P y Q) st :=
 h.mono fun e s _ hq=>by
  cases e with
  | normal=>exact SWp.le hq h2
  | exit i=>exact hq.elim
  | ret=>exact hq.elim
end Go.Proofs.YtfplkgciebjehabGreatDoor.Aw
