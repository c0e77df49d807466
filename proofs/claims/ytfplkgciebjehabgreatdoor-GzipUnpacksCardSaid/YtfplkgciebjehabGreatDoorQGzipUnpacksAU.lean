/- Parts of the proof of GzipUnpacks. -/
import Derived.Test.YtfplkgciebjehabGreatDoorQGzipUnpacksAT
namespace Go.Proofs.YtfplkgciebjehabGreatDoor.Aw
open Go
set_option linter.unusedSimpArgs false
set_option linter.unusedVariables false
inductive SCode where
 | bad
 | skip
 | reg (ops:List SOper)
 | reg3 (a:List SOper) (ch:List (Option Nat × Operand × Nat)) (b:List SOper)
 | reg2 (ops:List SOper)
 | reg4 (a b:List SOper) (k:Option Nat × Operand × Nat) (c:List SOper)
 | seq (a b:SCode)
 | cond (c:Operand) (a b:SCode)
 | block (id:Nat) (b:SCode)
 | loop (b:SCode)
 | exit (id:Nat)
 | ret
 deriving Inhabited
def Zam (P:Program) (N:Nat):Code→SCode
 | .skip=>.skip
 | .region _ ops draw =>
  match ops.toList.mapM (ZdB P N false ops),ops.toList.mapM (ZdB P N true ops) with
  | some sl,some sl'=>if draw then (if ZhE ops sl then .reg sl else match Zvc ops sl with
   | some h=>.reg3 (sl.take (h+1)) (ZBP ops sl h) (sl.drop (h+1))
   | none=>match ZxM ops sl sl' with
    | (h,u,k)::_=>.reg4 ((Zvf ops sl sl' h).take h) (((Zvf ops sl sl' h).drop h).take (u+1-h)) k ((Zvf ops sl sl' h).drop (u+1))
    | []=>if ZhE ops (ZBC ops sl sl') then .reg (ZBC ops sl sl') else if ZhE ops sl' then .reg sl' else if Zob ops sl then .reg (ZBO sl) else if ZzR ops sl then .reg2 sl else .bad) else .reg sl
  | _,_=>.bad
 | .seq a b=>.seq (Zam P N a) (Zam P N b)
 | .cond c a b=>.cond c (Zam P N a) (Zam P N b)
 | .block id b=>.block id (Zam P N b)
 | .loop b=>.loop (Zam P N b)
 | .exit id=>.exit id
 | .ret=>.ret
 | _=>.bad
inductive Ex where
 | normal
 | exit (id:Nat)
 | ret
def Ex.out:Ex→Exit
 | .normal=>.normal
 | .exit id=>.exit id
 | .ret=>.ret
def SWp (P:Program) [Tabs P] (c:SCode) (Q:Ex→ASt→Prop) (st:ASt):Prop :=
 P.follows .mixedOrders=true→∀ code,Zam P st.N code=c→∀ (w0:World) (M:Nat→Prop) (Z:Beg) (G:Gh) (a:Act) (w:World),R P w0 M Z G st a w →
  code.wp P (fun e a' w'=>∃ ex st' G',e=Ex.out ex∧Q ex st'∧st'.N=st.N∧R P w0 M Z G' st' a' w') a w
section
variable {P:Program} [Tabs P] {Q Q':Ex→ASt→Prop} {st st':ASt}
theorem SWp.mono {c:SCode} (h:SWp P c Q st) (hq:∀ e s,s.N=st.N→Q e s→Q' e s):SWp P c Q' st:=fun hm code hc w0 M Z G a w hR =>
 wp_mono (h hm code hc w0 M Z G a w hR) fun _ _ _ ⟨ex,st',G',h1,h2,h3,h4⟩=>⟨ex,st',G',h1,hq _ _ h3 h2,h3,h4⟩
theorem AOps.N {K:ASt→Prop}:∀ {sl:List SOper} {st:ASt},AOps P sl K st→AOps P sl (fun s=>K s∧s.N=st.N) st
 | [],_,h=>⟨h,rfl⟩
 | o::sl,st,h=>by
  rw [Zfr] at h ⊢
  refine h.N.mono fun s hs=>?_
  have:=hs.1.N
  rw [hs.2] at this
  exact this
theorem SWp.reg {sl:List SOper} (h:AOps P sl (Q .normal) st):SWp P (.reg sl) Q st:=by
 intro hm code hc w0 M Z G a w hR
 have h:=h.N
 have hK:∀ (s:ASt) (G:Gh) (a:Act) (w:World),(Q .normal s∧s.N=st.N)→R P w0 M Z G s a w→(fun e a' w'=>∃ ex st' G',e=Ex.out ex∧Q ex st'∧st'.N=st.N∧R P w0 M Z G' st' a' w') Exit.normal a w :=
  fun s G a w hs hR=>⟨.normal,s,G,rfl,hs.1,hs.2,hR⟩
 cases code with
 | region id ops draw =>
  simp only [Zam] at hc
  split at hc
  ·rename_i sl' sl'' hsl hsl'
   cases draw with
   | true =>
    simp only [if_true] at hc
    split at hc
    ·rename_i hok
     simp only [SCode.reg.injEq] at hc
     subst hc
     exact ZkJ hm (Zsc hsl) hok hK rfl hR h
    ·split at hc
     ·simp at hc
     split at hc
     ·simp at hc
     split at hc
     ·rename_i hok
      simp only [SCode.reg.injEq] at hc
      subst hc
      exact ZkJ hm (ZxJ hsl hsl') hok hK rfl hR h
     ·split at hc
      ·rename_i hok
       simp only [SCode.reg.injEq] at hc
       subst hc
       exact ZkJ hm (Zsc hsl') hok hK rfl hR h
      ·split at hc
       ·rename_i hok
        simp only [SCode.reg.injEq] at hc
        subst hc
        exact ZqK hm hsl hok hK rfl hR h
       ·split at hc <;> simp at hc
   | false =>
    simp only [Bool.false_eq_true,if_false,SCode.reg.injEq] at hc
    subst hc
    exact wp_region (Zu4 hsl hK rfl hR h)
  ·simp at hc
 | _=>simp [Zam] at hc
theorem AOps.mono {K K':ASt→Prop} (hk:∀ s,K s→K' s):∀ {sl:List SOper} {st:ASt},AOps P sl K st→AOps P sl K' st
 | [],_,h=>hk _ h
 | o::sl,st,h=>by
  rw [Zfr] at h ⊢
  exact GStep.mono (fun s hs=>AOps.mono hk hs) h
theorem SWp.reg3 {x y:List SOper} {ch:List (Option Nat × Operand × Nat)} (h:AOps P x (fun s=>Zxs P ch s∧AOps P y (Q .normal) s) st):SWp P (.reg3 x ch y) Q st:=by
 intro hm code hc w0 M Z G a w hR
 have h:=AOps.mono (K':=fun s=>Zxs P ch s∧AOps P y (fun s=>Q .normal s∧s.N=st.N) s) (fun s hs=>⟨hs.1.1,by have:=hs.1.2.N;rw [hs.2] at this;exact this⟩) h.N
 have hK:∀ (s:ASt) (G:Gh) (a:Act) (w:World),(Q .normal s∧s.N=st.N)→R P w0 M Z G s a w→(fun e a' w'=>∃ ex st' G',e=Ex.out ex∧Q ex st'∧st'.N=st.N∧R P w0 M Z G' st' a' w') Exit.normal a w :=
  fun s G a w hs hR=>⟨.normal,s,G,rfl,hs.1,hs.2,hR⟩
 cases code with
 | region id ops draw =>
  simp only [Zam] at hc
  split at hc
  ·rename_i sl' sl'' hsl hsl'
   cases draw with
   | true =>
    simp only [if_true] at hc
    split at hc
    ·simp at hc
    ·split at hc
     ·rename_i k hk
      simp only [SCode.reg3.injEq] at hc
      obtain ⟨rfl,rfl,rfl⟩:=hc
      have hok:=List.find?_some hk
      have hlt:=List.mem_range.1 (List.mem_of_find?_eq_some hk)
      exact ZqL hm hsl hok hlt hK rfl hR h
     ·(repeat' split at hc) <;> simp at hc
   | false=>simp at hc
  ·simp at hc
 | _=>simp [Zam] at hc
theorem SWp.reg4 {x y z:List SOper} {sz:Option Nat} {o:Operand} {d:Nat} (h:AOps P x (fun s0=>AOps P y (fun s=>ZBQ P sz o d s0.hp s∧AOps P z (Q .normal) s) s0) st):SWp P (.reg4 x y (sz,o,d) z) Q st:=by
 intro hm code hc w0 M Z G a w hR
 have h:=AOps.mono (K':=fun s0=>AOps P y (fun s=>ZBQ P sz o d s0.hp s∧AOps P z (fun s=>Q .normal s∧s.N=st.N) s) s0) (fun s0 h0=>AOps.mono (fun s hs=>⟨hs.1.1,by
  have:=hs.1.2.N
  rw [hs.2,h0.2] at this
  exact this⟩) h0.1.N) h.N
 have hK:∀ (s:ASt) (G:Gh) (a:Act) (w:World),(Q .normal s∧s.N=st.N)→R P w0 M Z G s a w→(fun e a' w'=>∃ ex st' G',e=Ex.out ex∧Q ex st'∧st'.N=st.N∧R P w0 M Z G' st' a' w') Exit.normal a w :=
  fun s G a w hs hR=>⟨.normal,s,G,rfl,hs.1,hs.2,hR⟩
 cases code with
 | region id ops draw =>
  simp only [Zam] at hc
  split at hc
  ·rename_i sl' sl'' hsl hsl'
   cases draw with
   | true =>
    simp only [if_true] at hc
    split at hc
    ·simp at hc
    ·split at hc
     ·simp at hc
     ·split at hc
      ·rename_i hk
       simp only [SCode.reg4.injEq] at hc
       obtain ⟨rfl,rfl,rfl,rfl⟩:=hc
       obtain ⟨hok,hu⟩:=Ztl hk
       exact ZqN hm (Zvh hsl hsl') hok hu hK rfl hR h
      ·(repeat' split at hc) <;> simp at hc
   | false=>simp at hc
  ·simp at hc
 | _=>simp [Zam] at hc
theorem SWp.reg2 {x y:SOper} {r:List SOper} (h:AOps P (x::y::r) (Q .normal) st) (h':AOps P (y::x::r) (Q .normal) st):SWp P (.reg2 (x::y::r)) Q st:=by
 intro hm code hc w0 M Z G a w hR
 have h:=h.N
 have h':=h'.N
 have hK:∀ (s:ASt) (G:Gh) (a:Act) (w:World),(Q .normal s∧s.N=st.N)→R P w0 M Z G s a w→(fun e a' w'=>∃ ex st' G',e=Ex.out ex∧Q ex st'∧st'.N=st.N∧R P w0 M Z G' st' a' w') Exit.normal a w :=
  fun s G a w hs hR=>⟨.normal,s,G,rfl,hs.1,hs.2,hR⟩
 cases code with
 | region id ops draw =>
  simp only [Zam] at hc
  split at hc
  ·rename_i sl' sl'' hsl hsl'
   cases draw with
   | true =>
    simp only [if_true] at hc
    split at hc
    ·simp at hc
    ·split at hc
     ·simp at hc
     split at hc
     ·simp at hc
     split at hc
     ·simp at hc
     ·split at hc
      ·simp at hc
      ·split at hc
       ·simp at hc
       ·split at hc
        ·rename_i hok
         simp only [SCode.reg2.injEq] at hc
         subst hc
         exact ZqM hm hsl hok hK rfl hR h h'
        ·simp at hc
   | false=>simp at hc
  ·simp at hc
 | _=>simp [Zam] at hc
def thn (P:Program) [Tabs P] (b:SCode) (Q:Ex→ASt→Prop):Ex→ASt→Prop
 | .normal,s=>SWp P b Q s
 | e,s=>Q e s
theorem SWp.seq {x y:SCode} (h:SWp P x (thn P y Q) st):SWp P (.seq x y) Q st:=by
 intro hm code hc w0 M Z G a w hR
 cases code with
 | seq cx cy =>
  simp only [Zam,SCode.seq.injEq] at hc
  obtain ⟨hx,hy⟩:=hc
  refine wp_seq (wp_mono (h hm cx hx w0 M Z G a w hR) ?_)
  rintro e a' w' ⟨ex,s,G',rfl,h1,h2,h3⟩
  cases ex with
  | normal =>
   have:=h1 hm cy (by rw [h2];exact hy) w0 M Z G' a' w' h3
   exact wp_mono this fun e a w ⟨ex,s',G',k1,k2,k3,k4⟩=>⟨ex,s',G',k1,k2,k3.trans h2,k4⟩
  | exit id=>exact ⟨.exit id,s,G',rfl,h1,h2,h3⟩
  | ret=>exact ⟨.ret,s,G',rfl,h1,h2,h3⟩
 | region id ops draw=>simp only [Zam] at hc;(repeat' split at hc) <;> simp at hc
 | _=>simp [Zam] at hc
theorem SWp.skip (h:Q .normal st):SWp P .skip Q st:=by
 intro hm code hc w0 M Z G a w hR
 cases code with
 | skip=>exact fun b k cs=>⟨.normal,a,w,⟨.normal,st,G,rfl,h,rfl,hR⟩,.one step_skip⟩
 | region id ops draw=>simp only [Zam] at hc;(repeat' split at hc) <;> simp at hc
 | _=>simp [Zam] at hc
theorem SWp.ret (h:Q .ret st):SWp P .ret Q st:=by
 intro hm code hc w0 M Z G a w hR
 cases code with
 | ret=>exact wp_ret ⟨.ret,st,G,rfl,h,rfl,hR⟩
 | region id ops draw=>simp only [Zam] at hc;(repeat' split at hc) <;> simp at hc
 | _=>simp [Zam] at hc
theorem SWp.exit {id:Nat} (h:Q (.exit id) st):SWp P (.exit id) Q st:=by
 intro hm code hc w0 M Z G a w hR
 cases code with
 | exit id' =>
  simp only [Zam,SCode.exit.injEq] at hc
  subst hc
  exact fun b k cs=>⟨.exit id',a,w,⟨.exit id',st,G,rfl,h,rfl,hR⟩,fun k' hk'=>.one (step_exit hk')⟩
 | region id ops draw=>simp only [Zam] at hc;(repeat' split at hc) <;> simp at hc
 | _=>simp [Zam] at hc
theorem SWp.cond {c:Operand} {x y:SCode} {t:Bool} (hc0:ev P st c = .sc (.bool t)) (ht:t=true→SWp P x Q st) (hf:t=false→SWp P y Q st):SWp P (.cond c x y) Q st:=by
 intro hm code hc w0 M Z G a w hR
 cases code with
 | cond c' cx cy =>
  simp only [Zam,SCode.cond.injEq] at hc
  obtain ⟨rfl,hx,hy⟩:=hc
  have hv:a.eval c' = .bool t:=by
   have:=hR.ev c'
   rw [hc0] at this
   exact this.sc_inv
  exact wp_cond_split hv (fun e=>ht e hm cx hx w0 M Z G a w hR) (fun e=>hf e hm cy hy w0 M Z G a w hR)
 | region id ops draw=>simp only [Zam] at hc;(repeat' split at hc) <;> simp at hc
 | _=>simp [Zam] at hc
def inb (id:Nat) (Q:Ex→ASt→Prop):Ex→ASt→Prop
 | .exit id',s=>if id'=id then Q .normal s else Q (.exit id') s
 | e,s=>Q e s
theorem SWp.block {id:Nat} {x:SCode} (h:SWp P x (inb id Q) st):SWp P (.block id x) Q st:=by
 intro hm code hc w0 M Z G a w hR
 cases code with
 | block id' cx =>
  simp only [Zam,SCode.block.injEq] at hc
  obtain ⟨rfl,hx⟩:=hc
  refine wp_block (wp_mono (h hm cx hx w0 M Z G a w hR) ?_)
  rintro e a' w' ⟨ex,s,G',rfl,h1,h2,h3⟩
  cases ex with
  | normal=>exact ⟨.normal,s,G',rfl,h1,h2,h3⟩
  | ret=>exact ⟨.ret,s,G',rfl,h1,h2,h3⟩
  | exit i =>
   simp only [Ex.out,Exit.inBlock]
   simp only [inb] at h1
   split
   ·rename_i e;rw [if_pos e] at h1;exact ⟨.normal,s,G',rfl,h1,h2,h3⟩
   ·rename_i e;rw [if_neg e] at h1;exact ⟨.exit i,s,G',rfl,h1,h2,h3⟩
 | region id ops draw=>simp only [Zam] at hc;(repeat' split at hc) <;> simp at hc
 | _=>simp [Zam] at hc
structure Le (st st':ASt):Prop where
 tm:∀ t,st'.tm t=st.tm t∨st'.tm t = .junk
 hp:∀ id,st'.hp id=st.hp id∨st'.hp id=none
 gc:st.gc≤st'.gc
 N:st'.N=st.N
theorem Le.refl (st:ASt):Le st st:=⟨fun _=>.inl rfl,fun _=>.inl rfl,Nat.le_refl _,rfl⟩
theorem R.leE {w0:World} {M:Nat→Prop} {Z:Beg} {G:Gh} {a:Act} {w:World} (hR:R P w0 M Z G st a w) (h:Le st st'):∃ G',Ext st.gc G w G' w∧R P w0 M Z G' st' a w:=by
 let G':Gh:=⟨G.S,fun id g=>if st'.hp id=none then none else G.ob id g⟩
 have hE:∀ c,Ext c G w G' w:=fun c=>⟨fun _ h=>h,fun _ _=>rfl,fun _ _ h=>h,fun id g ob _ ho=>by
  simp only [G'] at ho
  split at ho
  ·simp at ho
  ·exact ho⟩
 have hkeep:∀ id o,st'.hp id=some o→st.hp id=some o:=fun id o ho=>by
  rcases h.hp id with e | e
  ·rw [←e];exact ho
  ·rw [e] at ho;simp at ho
 refine ⟨G',hE _,hR.keep,⟨hR.heap.lt,?_,?_,?_,?_⟩,by rw [h.N];exact hR.size,?_,?_,hR.defers,hR.fr,hR.ext.trans hR.lc (hE st.gc),Nat.le_trans hR.lc h.gc,hR.lc1,hR.tabs⟩
 ·intro id g ob ho
  simp only [G'] at ho
  split at ho
  ·simp at ho
  ·rename_i hne
   obtain ⟨o,h1⟩:=hR.heap.live _ _ _ ho
   rcases h.hp id with e | e
   ·exact ⟨o,by rw [e];exact h1⟩
   ·exact absurd e hne
 ·intro id g nl cells ho
  obtain ⟨a,b⟩:=hR.heap.gl _ _ _ _ (hkeep _ _ ho)
  exact ⟨Nat.lt_of_lt_of_le a h.gc,Zda h.gc _ b⟩
 ·intro id g id' g' b h1 h2
  exact hR.heap.inj _ _ _ _ _ ((hE (g+1)).ob _ _ _ (by omega) h1) ((hE (g'+1)).ob _ _ _ (by omega) h2)
 ·intro id g nl cells ho
  obtain ⟨ob,h1,h2,h3,h4⟩:=hR.heap.row _ _ _ _ (hkeep _ _ ho)
  refine ⟨ob,?_,h2,h3,fun b hb=>?_⟩
  ·simp only [G']
   rw [if_neg (by rw [ho];simp)]
   exact h1
  ·obtain ⟨k1,k2,vs,k4,k3⟩:=h4 b hb
   exact ⟨k1,k2,vs,RdL.mono (hE st.gc) _ _ (hR.heap.gl _ _ _ _ (hkeep _ _ ho)).2 k4,k3⟩
 ·intro t
  rcases h.tm t with e | e
  ·rw [e];exact Rd.mono (hE st.gc) _ _ (hR.gl t) (hR.tm t)
  ·rw [e];simp [Rd]
 ·intro t
  rcases h.tm t with e | e
  ·rw [e];exact Zhf h.gc _ (hR.gl t)
  ·rw [e];simp [AV.gl]
theorem R.le {w0:World} {M:Nat→Prop} {Z:Beg} {G:Gh} {a:Act} {w:World} (hR:R P w0 M Z G st a w) (h:Le st st'):∃ G',R P w0 M Z G' st' a w:=by
 obtain ⟨G',_,h⟩:=hR.leE h
 exact ⟨G',h⟩
theorem SWp.le {c:SCode} (hl:Le st st') (h:SWp P c Q st'):SWp P c Q st:=by
 intro hm code hc w0 M Z G a w hR
 obtain ⟨G',hR'⟩:=hR.le hl
 have:=h hm code (by rw [hl.N];exact hc) w0 M Z G' a w hR'
 exact wp_mono this fun _ _ _ ⟨ex,s,G',h1,h2,h3,h4⟩=>⟨ex,s,G',h1,h2,h3.trans hl.N,h4⟩
def At {α:Type} (F:α→ASt) (I:α→Prop) (μ:α→Nat) (n:Nat) (s:ASt):Prop:=∃ k',I k'∧μ k'<n∧Le s (F k')
def lp {α:Type} (F:α→ASt) (I:α→Prop) (μ:α→Nat) (n:Nat) (Q:Ex→ASt→Prop):Ex→ASt→Prop
 | .normal,s=>At F I μ n s
 | e,s=>Q e s
theorem SWp.loop {x:SCode} {α:Type} (F:α→ASt) (I:α→Prop) (μ:α→Nat) (a0:α) (h0:I a0) (hst:Le st (F a0))
  (h:∀ k,I k→(F k).N=st.N→SWp P x (lp F I μ (μ k) Q) (F k)):SWp P (.loop x) Q st:=by
 intro hm code hc w0 M Z G a w hR
 cases code with
 | loop cx =>
  simp only [Zam,SCode.loop.injEq] at hc
  let J:Nat→Act→World→Prop:=fun n a w=>∃ k G,I k∧μ k=n∧(F k).N=st.N∧R P w0 M Z G (F k) a w
  obtain ⟨G0,hR0⟩:=hR.le hst
  intro b kk cs
  have key:∀ n a w,J n a w→∃ e a' w',(∃ ex st' G',e=Ex.out ex∧Q ex st'∧st'.N=st.N∧R P w0 M Z G' st' a' w')∧Arrives P (lone (b.at a (.code cx::.inLoop cx::kk)) cs w) b kk cs e a' w':=by
   intro n
   induction n using Nat.strongRecOn with
   | _ n ih =>
    rintro a w ⟨k,G,hI,hμ,hN,hRk⟩
    have hround:=h k hI hN hm cx (by rw [hN];exact hc) w0 M Z G a w hRk
    obtain ⟨e,a₁,w₁,hq,harr⟩:=hround b (.inLoop cx::kk) cs
    obtain ⟨ex,s,G',rfl,h1,h2,h3⟩:=hq
    cases ex with
    | normal =>
     obtain ⟨k',hI',hlt,hle⟩:=h1
     obtain ⟨G₂,hR₂⟩:=h3.le hle
     obtain ⟨e₂,a₂,w₂,hq₂,harr₂⟩:=ih (μ k') (by omega) a₁ w₁ ⟨k',G₂,hI',rfl,by rw [hle.N,h2,hN],hR₂⟩
     exact ⟨e₂,a₂,w₂,hq₂,.of_steps (Steps.trans harr (.one step_inLoop)) harr₂⟩
    | exit id=>exact ⟨_,a₁,w₁,⟨.exit id,s,G',rfl,h1,h2.trans hN,h3⟩,.pass (x:=.inLoop cx) rfl (fun _ _=>.inl (by simp [Ex.out])) harr⟩
    | ret=>exact ⟨_,a₁,w₁,⟨.ret,s,G',rfl,h1,h2.trans hN,h3⟩,.pass (x:=.inLoop cx) rfl (fun _ _=>.inl (by simp [Ex.out])) harr⟩
  obtain ⟨e,a',w',hq,harr⟩:=key _ a w ⟨a0,G0,h0,rfl,hst.N,hR0⟩
  exact ⟨e,a',w',hq,.of_steps (.one step_loop) harr⟩
 | region id ops draw=>simp only [Zam] at hc;(repeat' split at hc) <;> simp at hc
 | _=>simp [Zam] at hc
def Zse:List (Nat × AV)→Nat→AV
 | [],_=>.junk
 | (s,v)::r,t=>if t=s then v else Zse r t
def mk (N gc:Nat) (l:List (Nat × AV)) (h:List (Nat × Nat × AO)):ASt:=⟨Zse l,ZcR h,gc,N⟩
theorem Zvk:∀ (l:List (Nat × AV)) (t:Nat),(∃ p∈l,p.1=t∧Zse l t=p.2)∨Zse l t = .junk
 | [],_=>.inr rfl
 | (s,v)::r,t=>by
  simp only [Zse]
  by_cases e:t=s
  ·rw [if_pos e];exact .inl ⟨(s,v),by simp,e.symm,rfl⟩
  ·rw [if_neg e]
   rcases Zvk r t with ⟨p,h1,h2⟩ | h
   ·exact .inl ⟨p,by simp [h1],h2⟩
   ·exact .inr h
theorem Zoc:∀ (l:List (Nat × Nat × AO)) (t:Nat),(∃ p∈l,p.1=t∧ZcR l t=some p.2)∨ZcR l t=none
 | [],_=>.inr rfl
 | (s,v)::r,t=>by
  simp only [ZcR]
  by_cases e:t=s
  ·rw [if_pos e];exact .inl ⟨(s,v),by simp,e.symm,rfl⟩
  ·rw [if_neg e]
   rcases Zoc r t with ⟨p,h1,h2⟩ | h
   ·exact .inl ⟨p,by simp [h1],h2⟩
   ·exact .inr h
def AllTm (f:Nat→AV):List (Nat × AV)→Prop
 | []=>True
 | p::r=>f p.1=p.2∧AllTm f r
def AllHp (f:Hp):List (Nat × Nat × AO)→Prop
 | []=>True
 | p::r=>f p.1=some p.2∧AllHp f r
theorem AllTm.mem {f:Nat→AV}:∀ {l:List (Nat × AV)},AllTm f l→∀ p∈l,f p.1=p.2
 | [],_,p,hp=>by simp at hp
 | q::r,h,p,hp=>by
  rcases List.mem_cons.1 hp with rfl | hp
  ·exact h.1
  ·exact AllTm.mem h.2 p hp
theorem AllHp.mem {f:Hp}:∀ {l:List (Nat × Nat × AO)},AllHp f l→∀ p∈l,f p.1=some p.2
 | [],_,p,hp=>by simp at hp
 | q::r,h,p,hp=>by
  rcases List.mem_cons.1 hp with rfl | hp
  ·exact h.1
  ·exact AllHp.mem h.2 p hp
theorem Zal {N gc:Nat} {l:List (Nat × AV)} {h:List (Nat × Nat × AO)} (hN:N=st.N) (hgc:st.gc≤gc) (hl:AllTm st.tm l) (hh:AllHp st.hp h):Le st (mk N gc l h):=by
 refine ⟨fun t=>?_,fun id=>?_,hgc,hN⟩
 ·rcases Zvk l t with ⟨p,h1,rfl,h3⟩ | h1
  ·exact .inl (by simp only [mk];rw [h3,hl.mem p h1])
  ·exact .inr h1
 ·rcases Zoc h id with ⟨p,h1,rfl,h3⟩ | h1
  ·exact .inl (by simp only [mk];rw [h3,hh.mem p h1])
  ·exact .inr h1
inductive RV where
 | tmp (t:Nat)
 | cell (a:Nat) (sz:Option Nat)
def Zmq (P:Program):ResultVar→Option RV
 | .tmp t=>some (.tmp t)
 | .cell a t=>(szT P t).map fun sz=>.cell a sz
def Zsf (a:Act):ResultVar→Sem Value
 | .tmp t=>pure (a.tmps.getD t undef)
 | .cell c t=>do loadVar t (←asAddr (a.tmps.getD c undef))
def Zaf (P:Program) (fn:Func):Option (List RV):=fn.results.toList.mapM (Zmq P)
def Zsg (st:ASt):RV→Prop × AV
 | .tmp t=>(True,st.tm t)
 | .cell a sz=>ZeL sz (st.tm a) st.hp
def Zjb (st:ASt):List RV→Prop
 | []=>True
 | r::rs=>(Zsg st r).1∧Zjb st rs
def Zhl (st:ASt):List RV→AV
 | [r]=>(Zsg st r).2
 | rs=>.tup (rs.map fun r=>(Zsg st r).2)
def fin (rs:List RV) (out:AV):Ex→ASt→Prop
 | .exit _,_=>False
 | _,st=>Zjb st rs∧frz st.hp (Zhl st rs)=out
theorem Zmr {w0:World} {M:Nat→Prop} {Z:Beg} {G:Gh} {a:Act} {w:World} (hR:R P w0 M Z G st a w) {fn:Func} {rs:List RV} (hrs:Zaf P fn=some rs) (hok:Zjb st rs) :
  ∃ v,(results fn a.tmps).run P w = .ok v w∧Rd G w (Zhl st rs) v∧(Zhl st rs).gl st.gc:=by
 have one:∀ (rv:ResultVar) (r:RV),Zmq P rv=some r→(Zsg st r).1→∃ v,(Zsf a rv).run P w = .ok v w∧Rd G w (Zsg st r).2 v∧(Zsg st r).2.gl st.gc:=by
  intro rv r h1 h2
  cases rv with
  | tmp t =>
   simp [Zmq] at h1;subst h1
   exact ⟨_,rfl,hR.tm t,hR.gl t⟩
  | cell c t =>
   simp only [Zmq,Option.map_eq_some_iff] at h1
   obtain ⟨sz,hT,rfl⟩:=h1
   obtain ⟨v,k1,k2,k3⟩:=Zl5 (P:=P) hR.heap hT h2 (hR.tm c) (hR.gl c)
   refine ⟨v,?_,k2,k3⟩
   have hp:∃ p,a.tmps.getD c undef = .pointer (some p):=by
    simp only [Zsg,ZeL] at h2
    have:=hR.tm c
    split at h2
    ·rename_i y o e
     rw [e] at this
     simp only [Rd] at this
     obtain ⟨u,b,o',_,h,_⟩:=this
     exact ⟨_,h⟩
    ·rename_i id g o e
     rw [e] at this
     split at h2
     ·rename_i g' nl cells hid
      obtain ⟨rfl,_⟩:=h2
      obtain ⟨b,h,_⟩:=ZuQ hR.heap (by simp [live,hid]) this
      exact ⟨_,h⟩
     ·simp [Zao] at h2
    ·simp [Zao] at h2
   obtain ⟨p,hp⟩:=hp
   rw [hp] at k1
   simpa [Zsf,hp,Instr.loadAt,Instr.sureAddr,asAddr] using k1
 have all:∀ (l:List ResultVar) (rs:List RV),l.mapM (Zmq P)=some rs→Zjb st rs →
   ∃ vs,(l.mapM (Zsf a)).run P w = .ok vs w∧RdL G w (rs.map fun r=>(Zsg st r).2) vs∧AV.gl.glL st.gc (rs.map fun r=>(Zsg st r).2):=by
  intro l
  induction l with
  | nil =>
   intro rs h _
   simp at h;subst h
   exact ⟨[],by simp,by simp [RdL],by simp [AV.gl.glL]⟩
  | cons rv l ih =>
   intro rs h hok
   simp only [List.mapM_cons,Option.bind_eq_bind,Option.pure_def] at h
   cases ho:Zmq P rv with
   | none=>rw [ho] at h;simp at h
   | some r =>
    rw [ho] at h
    cases hr:l.mapM (Zmq P) with
    | none=>simp [hr] at h
    | some r' =>
     simp [hr] at h;subst h
     simp only [Zjb] at hok
     obtain ⟨v,k1,k2,k3⟩:=one rv r ho hok.1
     obtain ⟨vs,q1,q2,q3⟩:=ih r' hr hok.2
     refine ⟨v::vs,?_,?_,?_⟩
     ·simp only [List.mapM_cons]
      simp [k1,q1]
     ·simp only [List.map_cons,RdL];exact ⟨v,vs,rfl,k2,q2⟩
     ·simp only [List.map_cons,AV.gl.glL];exact ⟨k3,q3⟩
 obtain ⟨vs,q1,q2,q3⟩:=all fn.results.toList rs hrs hok
 have hrun:(results fn a.tmps).run P w = .ok (if h:vs.toArray.size=1 then vs.toArray[0] else .tuple vs.toArray) w:=by
  have e0:results fn a.tmps=(do
    let vs ← fn.results.mapM (Zsf a)
    pure (if h:vs.size=1 then vs[0] else .tuple vs)):=rfl
  rw [e0,Array.mapM_eq_mapM_toList]
  simp [q1]
 refine ⟨_,hrun,?_⟩
 have hl:=q2.length
 rw [List.length_map] at hl
 clear hrun q1 hrs hok all one
 match rs,vs,hl,q2,q3 with
 | [],[],_,_,_ =>
  refine ⟨?_,by simp [Zhl,AV.gl,AV.gl.glL]⟩
  simp only [Zhl,List.map_nil,Rd]
  exact ⟨[],by simp,by simp [RdL]⟩
 | [r],[v],_,q2,q3 =>
  simp only [List.map_cons,List.map_nil,RdL] at q2
  obtain ⟨v',_,h,hr,rfl⟩:=q2
  simp at h;subst h
  simp only [List.map_cons,List.map_nil,AV.gl.glL] at q3
  exact ⟨by simpa [Zhl] using hr,by simpa [Zhl] using q3.1⟩
 | r::r'::rs,v::v'::vs,_,q2,q3 =>
  refine ⟨?_,by simpa [Zhl,AV.gl] using q3⟩
  have e:¬ ((v::v'::vs).toArray.size=1):=by simp
  simp only [e,Zhl]
  simp only [Rd]
  exact ⟨_,rfl,q2⟩
def start (N:Nat) (ins:List AV):ASt:=⟨fun t=>ins.getD t .junk,fun _=>none,0,N⟩
theorem Con.of {f:Nat} {fn:Func} {code:Code} {ins:List AV} {out:AV} {S:SCode} {rs:List RV} (hm:P.follows .mixedOrders=true) (hf:P.funcs[f]? = some fn) (hb:fn.body=some code) (hs:Zam P fn.ntmps code=S) (hrs:Zaf P fn=some rs)
  (hn:ins.length≤fn.ntmps) (hfree:AV.free.freeL ins=true) (hof:out.free=true) (h:SWp P S (fin rs out) (start fn.ntmps ins)):Con P f ins out:=by
 intro w Sf vs htab hlt hrd
 have hl:=hrd.length
 refine calls_of_wp hf hb ?_
 have hR:R P w (fun _=>False) ⟨⟨Sf,fun _ _=>none⟩,0⟩ ⟨Sf,fun _ _=>none⟩ (start fn.ntmps ins) { tmps:=vs.toArray++Array.replicate (fn.ntmps-vs.toArray.size) undef,defers:=[] } w:=by
  refine ⟨Keep.refl _ _ _,⟨hlt,?_,?_,?_,?_⟩,?_,?_,?_,rfl,fun b hb=>.inl hb,Ext.refl _ _ _,Nat.le_refl _,Nat.zero_le _,htab⟩
  ·intro id g ob ho;simp at ho
  ·intro id g nl cells ho;simp [start] at ho
  ·intro id g id' g' b ho;simp at ho
  ·intro id g nl cells ho;simp [start] at ho
  ·simp [start];omega
  ·intro t
   simp only [start]
   cases hi:ins[t]? with
   | none=>simp [List.getD,hi,Rd]
   | some x =>
    obtain ⟨v,hv,hr⟩:=hrd.get t x hi
    have hlt':t<vs.length:=Zap hv
    have:(vs.toArray++Array.replicate (fn.ntmps-vs.toArray.size) undef).getD t undef=v:=by
     rw [Array.getD_eq_getD_getElem?,Array.getElem?_append_left (by simpa using hlt')]
     simp [hv]
    simp only [List.getD,hi,Option.getD_some]
    rw [this]
    exact hr
  ·intro t
   simp only [start]
   cases hi:ins[t]? with
   | none=>simp [List.getD,hi,AV.gl]
   | some x =>
    simp only [List.getD,hi,Option.getD_some]
    exact Zbw _ _ (ZcZ.1 hfree x (List.mem_of_getElem? hi))
 refine wp_mono (h hm code hs w _ _ _ _ w hR) ?_
 rintro e a' w' ⟨ex,s,G',rfl,hq,_,hR'⟩
 have hfin:Zjb s rs∧frz s.hp (Zhl s rs)=out→a'.defers=[]∧∃ v,(results fn a'.tmps).run P w' = .ok v w'∧∃ v_1 S',Ending.returned v = .returned v_1∧Keep w.heap.size (fun _=>False) w w'∧(∀ b,Sf b→S' b)∧(∀ b,S' b→Sf b∨w.heap.size≤b)∧(∀ b,S' b→b<w'.heap.size)∧out.free=true∧Rd ⟨S',fun _ _=>none⟩ w' out v_1:=by
  rintro ⟨hok,rfl⟩
  obtain ⟨v,k1,k2,k3⟩:=Zmr hR' hrs hok
  have hfz:=Zfn hR'.heap _ _ k3 k2
  refine ⟨hR'.defers,v,k1,v,fun b=>(Sf b∨w.heap.size≤b)∧b<w'.heap.size,rfl,hR'.keep,fun b hb=>⟨.inl hb,Nat.lt_of_lt_of_le (hlt b hb) hR'.keep.size⟩,fun b hb=>hb.1,fun b hb=>hb.2,hof,?_⟩
  have hSG:∀ b,(GF G').S b→(Sf b∨w.heap.size≤b)∧b<w'.heap.size:=by
   rintro b (hb | ⟨id,g,hb⟩)
   ·exact ⟨(hR'.fr b hb).elim .inl (fun h=>h.elim .inr (fun h=>h.elim)),hR'.heap.lt b hb⟩
   ·obtain ⟨⟨nl,cells⟩,ho⟩:=hR'.heap.live _ _ _ hb
    obtain ⟨ob,e1,_,_,e4⟩:=hR'.heap.row _ _ _ _ ho
    rw [hb] at e1;cases e1
    obtain ⟨_,e5,_,_,e6⟩:=e4 b rfl
    exact ⟨.inr (e5.elim (fun h=>h) (fun h=>h.elim)),e6.lt⟩
  exact Rd.of_free (G:=GF G') (G':=⟨fun b=>(Sf b∨w.heap.size≤b)∧b<w'.heap.size,fun _ _=>none⟩) hSG (fun _ _=>rfl) _ _ hof hfz
 cases ex with
 | normal=>exact hfin hq
 | ret=>exact hfin hq
 | exit id=>exact hq.elim
def Zms (N:Nat) (ins:List AV) (hin:List AO):ASt:=⟨fun t=>ins.getD t .junk,Znd hin,1,N⟩
def ZBD (rs:List RV) (out:AV) (hout:List (Nat × Nat × AO)) (k:Nat):Ex→ASt→Prop
 | .exit _,_=>False
 | _,st=>Zjb st rs∧Zhl st rs=out∧AllHp st.hp hout∧st.gc≤k
theorem HCon.of {f:Nat} {fn:Func} {code:Code} {ins:List AV} {hin:List AO} {out:AV} {hout:List (Nat × Nat × AO)} {k:Nat} {S:SCode} {rs:List RV} (hm:P.follows .mixedOrders=true) (hf:P.funcs[f]? = some fn) (hb:fn.body=some code) (hs:Zam P fn.ntmps code=S) (hrs:Zaf P fn=some rs)
  (hn:ins.length≤fn.ntmps) (hgl:AV.gl.glL 1 ins) (hgo:∀ nl cells,AO.row nl cells∈hin→AV.gl.glL 1 cells) (h:SWp P S (ZBD rs out hout k) (Zms fn.ntmps ins hin)):HCon P f ins hin out hout k:=by
 refine ⟨hgl,hgo,?_⟩
 intro w G M vs htab hH hrd
 have hl:=hrd.length
 refine calls_of_wp hf hb ?_
 have hR:R P w M ⟨G,1⟩ G (Zms fn.ntmps ins hin) { tmps:=vs.toArray++Array.replicate (fn.ntmps-vs.toArray.size) undef,defers:=[] } w:=by
  refine ⟨Keep.refl _ _ _,⟨hH.lt,hH.live,hH.gl,hH.inj,?_⟩,?_,?_,?_,rfl,fun b hb=>.inl hb,Ext.refl _ _ _,Nat.le_refl _,Nat.le_refl _,htab⟩
  ·intro id g nl cells ho
   obtain ⟨ob,k1,k2,k3,k4⟩:=hH.row _ _ _ _ ho
   refine ⟨ob,k1,k2,k3,fun b hb=>?_⟩
   obtain ⟨q1,q2,q3⟩:=k4 b hb
   exact ⟨q1,.inr q2,q3⟩
  ·simp [Zms];omega
  ·intro t
   simp only [Zms]
   cases hi:ins[t]? with
   | none=>simp [List.getD,hi,Rd]
   | some x =>
    obtain ⟨v,hv,hr⟩:=hrd.get t x hi
    have hlt':t<vs.length:=Zap hv
    have:(vs.toArray++Array.replicate (fn.ntmps-vs.toArray.size) undef).getD t undef=v:=by
     rw [Array.getD_eq_getD_getElem?,Array.getElem?_append_left (by simpa using hlt')]
     simp [hv]
    simp only [List.getD,hi,Option.getD_some]
    rw [this]
    exact hr
  ·intro t
   simp only [Zms]
   cases hi:ins[t]? with
   | none=>simp [List.getD,hi,AV.gl]
   | some x =>
    simp only [List.getD,hi,Option.getD_some]
    exact Zdx.1 hgl x (List.mem_of_getElem? hi)
 refine wp_mono (h hm code hs w _ _ _ _ w hR) ?_
 rintro e a' w' ⟨ex,s,G',rfl,hq,_,hR'⟩
 have hfin:(Zjb s rs∧Zhl s rs=out∧AllHp s.hp hout∧s.gc≤k)→a'.defers=[]∧∃ v,(results fn a'.tmps).run P w' = .ok v w'∧∃ v_1 G',Ending.returned v = .returned v_1∧Keep w.heap.size M w w'∧Ext 1 G w G' w'∧Heap k (fun b=>w.heap.size≤b∨M b) G' (ZcR hout) w'∧Rd G' w' out v_1∧out.gl k∧(∀ b,G'.S b→G.S b∨w.heap.size≤b∨M b):=by
  rintro ⟨hok,rfl,hall,hk⟩
  obtain ⟨v,k1,k2,k3⟩:=Zmr hR' hrs hok
  have hle:Le s ⟨s.tm,ZcR hout,k,s.N⟩:=⟨fun _=>.inl rfl,fun id=>by
   rcases Zoc hout id with ⟨p,h1,rfl,h3⟩ | h1
   ·exact .inl (by show ZcR hout p.1=_;rw [h3,hall.mem p h1])
   ·exact .inr h1,hk,rfl⟩
  obtain ⟨G₂,hE,hR₂⟩:=hR'.leE hle
  exact ⟨hR'.defers,v,k1,v,G₂,rfl,hR'.keep,hR₂.ext,hR₂.heap,Rd.mono hE _ _ k3 k2,Zhf hk _ k3,hR₂.fr⟩
 cases ex with
 | normal=>exact hfin hq
 | ret=>exact hfin hq
 | exit id=>exact hq.elim
end
end Go.Proofs.YtfplkgciebjehabGreatDoor.Aw
