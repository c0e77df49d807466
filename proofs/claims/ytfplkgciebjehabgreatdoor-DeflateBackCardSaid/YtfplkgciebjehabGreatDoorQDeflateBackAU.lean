/- Parts of the proof of DeflateBack. -/
import Derived.Test.YtfplkgciebjehabGreatDoorQDeflateBackAT
import Derived.Lib.Hide
namespace Go.Proofs.YtfplkgciebjehabGreatDoor.Aw
open Go
set_option linter.unusedSimpArgs false
set_option linter.unusedVariables false
abbrev T (t:Nat):Operand:=.tmp t
abbrev C (n:Int):Operand:=.const (.int .i64 n)
def goP (p:Prop × AV) (d:Option Nat) (st:ASt) (K:ASt→Prop):Prop:=p.1∧K (st.put d p.2)
def goH (p:Prop × AV × Hp × Nat) (d:Option Nat) (st:ASt) (K:ASt→Prop):Prop:=p.1∧K (ASt.put ⟨st.tm,p.2.2.1,p.2.2.2,st.N⟩ d p.2.1)
def goC (P:Program) [Tabs P] (h:Bool) (f:Nat) (ins:List AV) (d:Option Nat) (st:ASt) (K:ASt→Prop):Prop:=(∃ out,Zog P f ins st.hp out∧K (st.put d out))∨(h=true∧∃ r hp' c',Zmu P f ins st.hp st.gc r hp' c'∧K (ASt.put ⟨st.tm,hp',c',st.N⟩ d r))
def goB (g:AV) (want:Bool) (A B:Prop):Prop:=∃ b,gIs g want b∧(b=want→A)∧(b=!want→B)
section
variable {P:Program} [Tabs P] {st st':ASt} {K:ASt→Prop} {d:Option Nat}
@[congr] theorem ZGB {p p':Prop × AV} (h:p=p') (h':st=st'):goP p d st K=goP p' d st' K:=by rw [h,h']
@[congr] theorem ZGC {p p':Prop × AV × Hp × Nat} (h:p=p') (h':st=st'):goH p d st K=goH p' d st' K:=by rw [h,h']
@[congr] theorem ZGD {t:Bool} {f:Nat} {p p':List AV} (h:p=p') (h':st=st'):goC P t f p d st K=goC P t f p' d st' K:=by rw [h,h']
@[congr] theorem ZGr {sl:List SOper} (h':st=st'):AOps P sl K st=AOps P sl K st':=by rw [h']
@[congr] theorem ZEv {s:SOp} (h':st=st'):AStep P s d st K=AStep P s d st' K:=by rw [h']
@[congr] theorem ZGE {c:SCode} {Q:Ex→ASt→Prop} (h':st=st'):SWp P c Q st=SWp P c Q st':=by rw [h']
@[congr] theorem ZGF {b:SCode} {Q:Ex→ASt→Prop} {e e':Ex} (h:e=e') (h':st=st'):thn P b Q e st=thn P b Q e' st':=by rw [h,h']
@[congr] theorem ZGG {i:Nat} {Q:Ex→ASt→Prop} {e e':Ex} (h:e=e') (h':st=st'):inb i Q e st=inb i Q e' st':=by rw [h,h']
@[congr] theorem ZGH {g g':AV} {want:Bool} {A B:Prop} (h:g=g'):goB g want A B=goB g' want A B:=by rw [h]
theorem ZGI {p:Prop} {v:AV}:goP (p,v) d st K=(p∧K (st.put d v)):=rfl
theorem ZGJ {p:Prop} {v:AV} {hp:Hp} {gc:Nat}:goH (p,v,hp,gc) d st K=(p∧K (ASt.put ⟨st.tm,hp,gc,st.N⟩ d v)):=rfl
theorem ZB6 {tm:Nat→AV} {hp:Hp} {gc N t:Nat} {v:AV}:ASt.put ⟨tm,hp,gc,N⟩ (some t) v=⟨upd tm t v,hp,gc,N⟩:=rfl
theorem ZB7 {v:AV}:ASt.put st none v=st:=rfl
theorem ZGK {tm:Nat→AV} {hp:Hp} {gc N t:Nat}:ev P ⟨tm,hp,gc,N⟩ (.tmp t)=tm t:=(rfl)
theorem ZoI {g:Nat} {xs:List AV} (h:Tabs.tab P g=some xs):ev P st (.global g) = .fp (.agg xs) 0:=by simp only [ev,h]
theorem ZB8 {v:Value}:ev P st (.const v) = .sc v:=rfl
theorem ZEw {f:Nat}:ev P st (.func f) = .sc (.func (.func f) #[] #[]):=rfl
theorem ZGL {f:Nat→AV} {t s:Nat} {v:AV}:upd f t v s=if s=t then v else f s:=(rfl)
theorem ZEx {f:Hp} {t s:Nat} {v:Option (Nat × AO)}:ZbA f t v s=if s=t then v else f s:=rfl
theorem ZB9 {t:Nat}:Zvs [] t = .junk:=(rfl)
theorem ZyZ {s t:Nat} {v:AV} {r:List (Nat × AV)}:Zvs ((s,v)::r) t=if t=s then v else Zvs r t:=(rfl)
theorem Zy0 {t:Nat}:Zdj [] t=none:=rfl
theorem ZwW {s t:Nat} {v:Nat × AO} {r:List (Nat × Nat × AO)}:Zdj ((s,v)::r) t=if t=s then some v else Zdj r t:=rfl
theorem ZGM {N gc:Nat} {l:List (Nat × AV)} {h:List (Nat × Nat × AO)}:mk N gc l h=⟨Zvs l,Zdj h,gc,N⟩:=rfl
theorem ZCa {N:Nat} {ins:List AV}:start N ins=⟨fun t=>ins.getD t .junk,fun _=>none,0,N⟩:=rfl
theorem ZCb:AOps P [] K st=K st:=rfl
theorem Zy1 {s:SOp} {r:List SOper}:AOps P (⟨d,s,none⟩::r) K st=AStep P s d st (AOps P r K):=rfl
theorem Zy2 {s:SOp} {g:Nat} {want:Bool} {r:List SOper}:AOps P (⟨d,s,some (g,want)⟩::r) K st=goB (st.tm g) want (AStep P s d st (AOps P r K)) (AOps P r K (st.put d (.sc undef))):=rfl
theorem ZCc {b want:Bool} {A B:Prop}:goB (.sc (.bool b)) want A B=((b=want→A)∧(b=!want→B)):=by
 apply propext
 constructor
 ·rintro ⟨c,hc,h1,h2⟩
  rcases hc with hc | ⟨hc,_⟩
  ·simp only [AV.sc.injEq,Value.bool.injEq] at hc
   subst hc;exact ⟨h1,h2⟩
  ·simp [undef] at hc
 ·rintro ⟨h1,h2⟩;exact ⟨b,.inl rfl,h1,h2⟩
theorem ZCd {A B:Prop}:goB (.sc (.bool true)) true A B=A:=by simp [ZCc]
theorem Zy3 {A B:Prop}:goB (.sc (.bool false)) true A B=B:=by simp [ZCc]
theorem Zy4 {A B:Prop}:goB (.sc (.bool true)) false A B=B:=by simp [ZCc]
theorem ZwX {A B:Prop}:goB (.sc (.bool false)) false A B=A:=by simp [ZCc]
theorem Zy5 {want:Bool} {A B:Prop}:goB (.sc (.tuple #[])) want A B=B:=by
 apply propext
 constructor
 ·rintro ⟨c,hc,_,h2⟩
  rcases hc with hc | ⟨_,hc⟩
  ·simp at hc
  ·exact h2 hc
 ·intro h;exact ⟨!want,.inr ⟨rfl,rfl⟩,fun h=>by cases want <;> simp at h,fun _=>h⟩
theorem ZCe {x:Operand}:AStep P (.mv x) d st K=K (st.put d (ev P st x)):=by simp [AStep,SOp.isHv,pv]
theorem ZwY {c a b:Operand}:AStep P (.pick c a b) d st K=goP (ZtD (ev P st c) (ev P st a) (ev P st b)) d st K:=rfl
theorem Zy6 {op:BinOp} {x y:Operand}:AStep P (.bin op x y) d st K=goP (Zkx op (ev P st x) (ev P st y)) d st K:=rfl
theorem Zy7 {n:Bool} {x y:Operand}:AStep P (.beq n x y) d st K=goP (ZBQ n (ev P st x) (ev P st y)) d st K:=rfl
theorem Zy8 {n:Bool} {z:Value} {x y:Operand}:AStep P (.aeq n z x y) d st K=goP (ZDV n z (ev P st x) (ev P st y)) d st K:=rfl
theorem Zt6 {n:Bool} {x:Operand}:AStep P (.isnil n x) d st K=goP (Zhs n (frz st.hp (ev P st x))) d st K:=rfl
theorem Zsi {n:Bool} {x:Operand}:AStep P (.isnilp n x) d st K=goP (Zf2 n (ev P st x)) d st K:=rfl
theorem ZwZ {x:Operand}:AStep P (.strz x) d st K=goH (ZrX (ev P st x) st.hp st.gc) d st K:=rfl
theorem ZCf {op:UnOp} {x:Operand}:AStep P (.un op x) d st K=goP (aUn op (ev P st x)) d st K:=rfl
theorem ZCg {k:IntKind} {x:Operand}:AStep P (.ci k x) d st K=goP (aCi k (ev P st x)) d st K:=rfl
theorem Zy9 {x:Operand}:AStep P (.sid x) d st K=goP ((ZrT (ev P st x)).1,ev P st x) d st K:=rfl
theorem Zza {x:Operand}:AStep P (.b2s x) d st K=goP (ZDT (frz st.hp (ev P st x))) d st K:=rfl
theorem Zzb {x:Operand}:AStep P (.s2b x) d st K=goP (ZGn (ev P st x)) d st K:=rfl
theorem Zzc {x:Operand} {lo hi:Option Operand}:AStep P (.sls x lo hi) d st K=goP (ZEg (ev P st x) (lo.map (ev P st)) (hi.map (ev P st))) d st K:=rfl
theorem ZCh {es:Option Nat} {x:Operand} {lo hi:Option Operand}:AStep P (.sl es x lo hi) d st K=goP (aSl es (ev P st x) (lo.map (ev P st)) (hi.map (ev P st))) d st K:=rfl
theorem Zzd {es:Option Nat} {x hi mx:Operand} {lo:Option Operand}:AStep P (.sl3 es x lo hi mx) d st K=goP (ZBR es (ev P st x) (lo.map (ev P st)) (ev P st hi) (ev P st mx)) d st K:=rfl
theorem Zze {n:Nat} {es:Option Nat} {x:Operand} {lo hi:Option Operand}:AStep P (.sla n es x lo hi) d st K=goP (ZDU n es (ev P st x) (lo.map (ev P st)) (hi.map (ev P st)) st.hp) d st K:=rfl
theorem Zt7 {o:Nat} {x:Operand}:AStep P (.faddr o x) d st K=goP (Znd o (ev P st x)) d st K:=rfl
theorem Zzf {o:Nat} {sz:Option Nat} {x:Operand}:AStep P (.fld o sz x) d st K=goP (ZEh o sz (ev P st x)) d st K:=rfl
theorem Zt8 {es:Option Nat} {x i:Operand}:AStep P (.iaddr es x i) d st K=goP (Zne es (ev P st x) (ev P st i)) d st K:=rfl
theorem Zsj {n:Nat} {es:Option Nat} {x i:Operand}:AStep P (.iaddrA n es x i) d st K=goP (Zi8 n es (ev P st x) (ev P st i)) d st K:=rfl
theorem Zw0 {x i:Operand}:AStep P (.idxS x i) d st K=goP (ZtE (ev P st x) (ev P st i)) d st K:=rfl
theorem Zw1 {n:Nat} {es:Option Nat} {x i:Operand}:AStep P (.idxA n es x i) d st K=goP (ZtF n es (ev P st x) (ev P st i)) d st K:=rfl
theorem Zw2 {sz:Option Nat} {x:Operand}:AStep P (.load sz x) d st K=goP (Zht sz (ev P st x) st.hp) d st K:=rfl
theorem Zt9 {z:List Value} {ps:List (Nat × Nat × Operand)}:AStep P (.build z ps) d st K=goP (Ze3 (z.map .sc) (ps.map fun p=>(p.1,p.2.1,ev P st p.2.2))) d st K:=rfl
theorem Zsk {es:Option Nat} {ps:List Operand}:AStep P (.bslice es ps) d st K=goP (Zmt es (ps.map (ev P st))) d st K:=rfl
theorem Zzg {x:Operand} {i:Nat}:AStep P (.ext x i) d st K=goP (ZEi i (ev P st x)) d st K:=rfl
theorem Zw3 {x:Operand}:AStep P (.nilc x) d st K=goP (ZrU (ev P st x)) d st K:=rfl
theorem Zw4 {x:Operand}:AStep P (.len true x) d st K=goP (ZtG (ev P st x)) d st K:=rfl
theorem Zzh {x:Operand}:AStep P (.len false x) d st K=goP (ZBS (ev P st x)) d st K:=rfl
theorem Zzi {es:Option Nat} {b:Nat} {x y:Operand}:AStep P (.app es b x y) d st K=goH (ZBL es b (ev P st x) (ev P st y) st.hp st.gc (d.getD 0)) d st K:=rfl
theorem Zw5 {b:Nat} {x y:Operand}:AStep P (.apps b x y) d st K=goH (ZqO b (ev P st x) (ev P st y) st.hp st.gc (d.getD 0)) d st K:=rfl
theorem Zw6 {es:Option Nat} {b:Nat} {z:List Value} {x y:Operand}:AStep P (.appz es b z x y) d st K=goH (Zpx es b z (ev P st x) (ev P st y) st.hp st.gc (d.getD 0)) d st K:=rfl
theorem Zw7 {x:Operand}:AStep P (.capn x) d st K=goP (ZrV (ev P st x)) d st K:=rfl
theorem Zzj {es:Option Nat} {b:Nat} {z:List Value} {x y:Operand}:AStep P (.mks es b z x y) d st K=goH (ZDW es b z (ev P st x) (ev P st y) st.hp st.gc (d.getD 0)) d st K:=rfl
theorem Zua {sz:Option Nat} {x y:Operand}:AStep P (.store sz x y) d st K=goH (Zbd sz (ev P st x) (ev P st y) st.hp st.gc) d st K:=rfl
theorem Zub {z:List Value}:AStep P (.alloc z) d st K=goH (True,.op (d.getD 0) st.gc 0,ZbA st.hp (d.getD 0) (some (st.gc,.row false (z.map .sc))),st.gc+1) d st K:=rfl
theorem Zzk {es:Option Nat} {ps:List Operand}:AStep P (.bsl es ps) d st K=goH (Zwt es (ps.map (ev P st)) st.hp st.gc (d.getD 0)) d st K:=rfl
theorem Zzl {es:Option Nat}:AStep P (.emp es) d st K=goH (True,.own (d.getD 0) st.gc es 0 0,ZbA st.hp (d.getD 0) (some (st.gc,.row false [])),st.gc+1) d st K:=rfl
theorem Zzm {x:Operand}:AStep P (.box x) d st K=goH (ZDX (ev P st x) st.hp st.gc (d.getD 0)) d st K:=rfl
theorem Zw8 {x y:Operand}:AStep P (.copy x y) d st K=goH (ZrY (ev P st x) (ev P st y) st.hp st.gc) d st K:=rfl
def goV (P:Program) [Tabs P] (h:Bool) (x:AV) (ins:List AV) (d:Option Nat) (st:ASt) (K:ASt→Prop):Prop:=∃ f caps,ZH2 x=some (f,caps)∧Zh9 P f=true∧goC P h f (ins++caps) d st K
theorem Zsl {h:Bool} {x:AV} {ins:List AV} (f:Nat) (hx:x = .sc (.func (.func f) #[] #[])) (hc:Zh9 P f=true) (hg:goC P h f ins d st K):goV P h x ins d st K:=⟨f,[],by subst hx;rfl,hc,by rw [List.append_nil];exact hg⟩
theorem Zuc {h:Bool} {f:Nat} {caps ins:List AV} (hc:Zh9 P f=true) (hg:goC P h f (ins++caps) d st K):goV P h (.clo f caps) ins d st K:=⟨f,caps,rfl,hc,hg⟩
theorem Zzn {f:Nat} {caps:List Operand}:AStep P (.mkf f caps) d st K=goP (True,.clo f (caps.map (ev P st))) d st K:=rfl
theorem Zzo:AStep P .mkm d st K=goH (True,.mp (d.getD 0) st.gc,ZbA st.hp (d.getD 0) (some (st.gc,.row false [.tup []])),st.gc+1) d st K:=rfl
theorem Zw9 {ok:Bool} {z zv:Value} {x k:Operand}:AStep P (.mget ok z zv x k) d st K=goP (ZtH ok z zv (ev P st x) (ev P st k) st.hp) d st K:=rfl
theorem Zxa {z:Value} {x k v:Operand}:AStep P (.mset z x k v) d st K=goH (ZqM z (ev P st x) (ev P st k) (ev P st v) st.hp st.gc) d st K:=rfl
theorem Zxb {z:Value} {x k:Operand}:AStep P (.mdel z x k) d st K=goH (ZqN z (ev P st x) (ev P st k) st.hp st.gc) d st K:=rfl
theorem Zxc {x:Operand}:AStep P (.mlen x) d st K=goP (ZtI (ev P st x) st.hp) d st K:=rfl
theorem ZCi {mx:Bool} {x:Operand} {xs:List Operand}:AStep P (.mm mx x xs) d st K=goP (aMm mx (ev P st x) (xs.map (ev P st))) d st K:=rfl
@[congr] theorem ZGN {t:Bool} {x x':AV} {p p':List AV} (hx:x=x') (h:p=p') (h':st=st'):goV P t x p d st K=goV P t x' p' d st' K:=by rw [hx,h,h']
theorem Zud {t:Bool} {x:Operand} {args:List Operand}:AStep P (.callv t x args) d st K=goV P t (ev P st x) (args.map (ev P st)) d st K:=rfl
theorem Zxd {t:Bool} {f:Nat} {args:List Operand}:AStep P (.call t f args) d st K=goC P t f (args.map (ev P st)) d st K:=rfl
theorem Zcn {x:Int} (h1:-9223372036854775808≤x) (h2:x≤9223372036854775807):IntKind.i64.wrap x=x:=by rw [IntKind.wrap_i64];omega
theorem ZEy {x:Int}:IntKind.u8.wrap x=x % 256:=by simp [IntKind.wrap,IntKind.bits,IntKind.signed]
theorem ZmD {x:Int} (h1:0≤x) (h2:x<256):IntKind.u8.wrap x=x:=by rw [ZEy];omega
end
end Go.Proofs.YtfplkgciebjehabGreatDoor.Aw
