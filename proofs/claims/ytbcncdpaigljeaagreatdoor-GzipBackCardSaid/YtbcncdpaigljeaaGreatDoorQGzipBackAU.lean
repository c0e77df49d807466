/- Parts of the proof of GzipBack. -/
import Derived.Test.YtbcncdpaigljeaaGreatDoorQGzipBackAT
import Derived.Lib.Hide
namespace Go.Proofs.YtbcncdpaigljeaaGreatDoor.Aw
open Go
set_option linter.unusedSimpArgs false
set_option linter.unusedVariables false
abbrev T (t:Nat):Operand:=.tmp t
abbrev C (n:Int):Operand:=.const (.int .i64 n)
def goP (p:Prop × AV) (d:Option Nat) (st:ASt) (K:ASt→Prop):Prop:=p.1∧K (st.put d p.2)
def goH (p:Prop × AV × Hp × Nat) (d:Option Nat) (st:ASt) (K:ASt→Prop):Prop:=p.1∧K (ASt.put ⟨st.tm,p.2.2.1,p.2.2.2,st.N⟩ d p.2.1)
def goC (P:Program) [Tabs P] (h:Bool) (f:Nat) (ins:List AV) (d:Option Nat) (st:ASt) (K:ASt→Prop):Prop:=(∃ out,Zn2 P f ins st.hp out∧K (st.put d out))∨(h=true∧∃ r hp' c',Zl6 P f ins st.hp st.gc r hp' c'∧K (ASt.put ⟨st.tm,hp',c',st.N⟩ d r))
def goB (g:AV) (want:Bool) (A B:Prop):Prop:=∃ b,gIs g want b∧(b=want→A)∧(b=!want→B)
section
variable {P:Program} [Tabs P] {st st':ASt} {K:ASt→Prop} {d:Option Nat}
@[congr] theorem ZG4 {p p':Prop × AV} (h:p=p') (h':st=st'):goP p d st K=goP p' d st' K:=by rw [h,h']
@[congr] theorem ZG5 {p p':Prop × AV × Hp × Nat} (h:p=p') (h':st=st'):goH p d st K=goH p' d st' K:=by rw [h,h']
@[congr] theorem ZG6 {t:Bool} {f:Nat} {p p':List AV} (h:p=p') (h':st=st'):goC P t f p d st K=goC P t f p' d st' K:=by rw [h,h']
@[congr] theorem ZGR {sl:List SOper} (h':st=st'):AOps P sl K st=AOps P sl K st':=by rw [h']
@[congr] theorem ZEZ {s:SOp} (h':st=st'):AStep P s d st K=AStep P s d st' K:=by rw [h']
@[congr] theorem ZG7 {c:SCode} {Q:Ex→ASt→Prop} (h':st=st'):SWp P c Q st=SWp P c Q st':=by rw [h']
@[congr] theorem ZG8 {b:SCode} {Q:Ex→ASt→Prop} {e e':Ex} (h:e=e') (h':st=st'):thn P b Q e st=thn P b Q e' st':=by rw [h,h']
@[congr] theorem ZG9 {i:Nat} {Q:Ex→ASt→Prop} {e e':Ex} (h:e=e') (h':st=st'):inb i Q e st=inb i Q e' st':=by rw [h,h']
@[congr] theorem ZHa {g g':AV} {want:Bool} {A B:Prop} (h:g=g'):goB g want A B=goB g' want A B:=by rw [h]
theorem ZHb {p:Prop} {v:AV}:goP (p,v) d st K=(p∧K (st.put d v)):=rfl
theorem ZHc {p:Prop} {v:AV} {hp:Hp} {gc:Nat}:goH (p,v,hp,gc) d st K=(p∧K (ASt.put ⟨st.tm,hp,gc,st.N⟩ d v)):=rfl
theorem ZCs {tm:Nat→AV} {hp:Hp} {gc N t:Nat} {v:AV}:ASt.put ⟨tm,hp,gc,N⟩ (some t) v=⟨upd tm t v,hp,gc,N⟩:=rfl
theorem ZCt {v:AV}:ASt.put st none v=st:=rfl
theorem ZHd {tm:Nat→AV} {hp:Hp} {gc N t:Nat}:ev P ⟨tm,hp,gc,N⟩ (.tmp t)=tm t:=(rfl)
theorem Zou {g:Nat} {xs:List AV} (h:Tabs.tab P g=some xs):ev P st (.global g) = .fp (.agg xs) 0:=by simp only [ev,h]
theorem ZCu {v:Value}:ev P st (.const v) = .sc v:=rfl
theorem ZE0 {f:Nat}:ev P st (.func f) = .sc (.func (.func f) #[] #[]):=rfl
theorem ZHe {f:Nat→AV} {t s:Nat} {v:AV}:upd f t v s=if s=t then v else f s:=(rfl)
theorem ZE1 {f:Hp} {t s:Nat} {v:Option (Nat × AO)}:Zbr f t v s=if s=t then v else f s:=rfl
theorem ZCv {t:Nat}:Zvu [] t = .junk:=(rfl)
theorem Zzc {s t:Nat} {v:AV} {r:List (Nat × AV)}:Zvu ((s,v)::r) t=if t=s then v else Zvu r t:=(rfl)
theorem Zzd {t:Nat}:Zc3 [] t=none:=rfl
theorem Zw3 {s t:Nat} {v:Nat × AO} {r:List (Nat × Nat × AO)}:Zc3 ((s,v)::r) t=if t=s then some v else Zc3 r t:=rfl
theorem ZHf {N gc:Nat} {l:List (Nat × AV)} {h:List (Nat × Nat × AO)}:mk N gc l h=⟨Zvu l,Zc3 h,gc,N⟩:=rfl
theorem ZCw {N:Nat} {ins:List AV}:start N ins=⟨fun t=>ins.getD t .junk,fun _=>none,0,N⟩:=rfl
theorem ZCx:AOps P [] K st=K st:=rfl
theorem Zze {s:SOp} {r:List SOper}:AOps P (⟨d,s,none⟩::r) K st=AStep P s d st (AOps P r K):=rfl
theorem Zzf {s:SOp} {g:Nat} {want:Bool} {r:List SOper}:AOps P (⟨d,s,some (g,want)⟩::r) K st=goB (st.tm g) want (AStep P s d st (AOps P r K)) (AOps P r K (st.put d (.sc undef))):=rfl
theorem ZCy {b want:Bool} {A B:Prop}:goB (.sc (.bool b)) want A B=((b=want→A)∧(b=!want→B)):=by
 apply propext
 constructor
 ·rintro ⟨c,hc,h1,h2⟩
  rcases hc with hc | ⟨hc,_⟩
  ·simp only [AV.sc.injEq,Value.bool.injEq] at hc
   subst hc;exact ⟨h1,h2⟩
  ·simp [undef] at hc
 ·rintro ⟨h1,h2⟩;exact ⟨b,.inl rfl,h1,h2⟩
theorem ZCz {A B:Prop}:goB (.sc (.bool true)) true A B=A:=by simp [ZCy]
theorem Zzg {A B:Prop}:goB (.sc (.bool false)) true A B=B:=by simp [ZCy]
theorem Zzh {A B:Prop}:goB (.sc (.bool true)) false A B=B:=by simp [ZCy]
theorem Zw4 {A B:Prop}:goB (.sc (.bool false)) false A B=A:=by simp [ZCy]
theorem Zzi {want:Bool} {A B:Prop}:goB (.sc (.tuple #[])) want A B=B:=by
 apply propext
 constructor
 ·rintro ⟨c,hc,_,h2⟩
  rcases hc with hc | ⟨_,hc⟩
  ·simp at hc
  ·exact h2 hc
 ·intro h;exact ⟨!want,.inr ⟨rfl,rfl⟩,fun h=>by cases want <;> simp at h,fun _=>h⟩
theorem ZCA {x:Operand}:AStep P (.mv x) d st K=K (st.put d (ev P st x)):=by simp [AStep,SOp.isHv,pv]
theorem Zw5 {c a b:Operand}:AStep P (.pick c a b) d st K=goP (Ztt (ev P st c) (ev P st a) (ev P st b)) d st K:=rfl
theorem Zzj {op:BinOp} {x y:Operand}:AStep P (.bin op x y) d st K=goP (ZjP op (ev P st x) (ev P st y)) d st K:=rfl
theorem Zzk {n:Bool} {x y:Operand}:AStep P (.beq n x y) d st K=goP (ZCb n (ev P st x) (ev P st y)) d st K:=rfl
theorem Zzl {n:Bool} {z:Value} {x y:Operand}:AStep P (.aeq n z x y) d st K=goP (ZEl n z (ev P st x) (ev P st y)) d st K:=rfl
theorem ZtW {n:Bool} {x:Operand}:AStep P (.isnil n x) d st K=goP (Zg4 n (frz st.hp (ev P st x))) d st K:=rfl
theorem Zr7 {n:Bool} {x:Operand}:AStep P (.isnilp n x) d st K=goP (ZfF n (ev P st x)) d st K:=rfl
theorem Zw6 {x:Operand}:AStep P (.strz x) d st K=goH (ZrM (ev P st x) st.hp st.gc) d st K:=rfl
theorem ZCB {op:UnOp} {x:Operand}:AStep P (.un op x) d st K=goP (aUn op (ev P st x)) d st K:=rfl
theorem ZCC {k:IntKind} {x:Operand}:AStep P (.ci k x) d st K=goP (aCi k (ev P st x)) d st K:=rfl
theorem Zzm {x:Operand}:AStep P (.sid x) d st K=goP ((ZrI (ev P st x)).1,ev P st x) d st K:=rfl
theorem Zzn {x:Operand}:AStep P (.b2s x) d st K=goP (ZEj (frz st.hp (ev P st x))) d st K:=rfl
theorem Zzo {x:Operand}:AStep P (.s2b x) d st K=goP (ZGN (ev P st x)) d st K:=rfl
theorem Zzp {x:Operand} {lo hi:Option Operand}:AStep P (.sls x lo hi) d st K=goP (ZEJ (ev P st x) (lo.map (ev P st)) (hi.map (ev P st))) d st K:=rfl
theorem ZCD {es:Option Nat} {x:Operand} {lo hi:Option Operand}:AStep P (.sl es x lo hi) d st K=goP (aSl es (ev P st x) (lo.map (ev P st)) (hi.map (ev P st))) d st K:=rfl
theorem Zzq {es:Option Nat} {x hi mx:Operand} {lo:Option Operand}:AStep P (.sl3 es x lo hi mx) d st K=goP (ZCc es (ev P st x) (lo.map (ev P st)) (ev P st hi) (ev P st mx)) d st K:=rfl
theorem Zzr {n:Nat} {es:Option Nat} {x:Operand} {lo hi:Option Operand}:AStep P (.sla n es x lo hi) d st K=goP (ZEk n es (ev P st x) (lo.map (ev P st)) (hi.map (ev P st)) st.hp) d st K:=rfl
theorem ZtX {o:Nat} {x:Operand}:AStep P (.faddr o x) d st K=goP (ZmP o (ev P st x)) d st K:=rfl
theorem Zzs {o:Nat} {sz:Option Nat} {x:Operand}:AStep P (.fld o sz x) d st K=goP (ZEK o sz (ev P st x)) d st K:=rfl
theorem ZtY {es:Option Nat} {x i:Operand}:AStep P (.iaddr es x i) d st K=goP (ZmQ es (ev P st x) (ev P st i)) d st K:=rfl
theorem Zr8 {n:Nat} {es:Option Nat} {x i:Operand}:AStep P (.iaddrA n es x i) d st K=goP (ZiR n es (ev P st x) (ev P st i)) d st K:=rfl
theorem Zw7 {x i:Operand}:AStep P (.idxS x i) d st K=goP (Ztu (ev P st x) (ev P st i)) d st K:=rfl
theorem Zw8 {n:Nat} {es:Option Nat} {x i:Operand}:AStep P (.idxA n es x i) d st K=goP (Ztv n es (ev P st x) (ev P st i)) d st K:=rfl
theorem Zw9 {sz:Option Nat} {x:Operand}:AStep P (.load sz x) d st K=goP (Zg5 sz (ev P st x) st.hp) d st K:=rfl
theorem ZtZ {z:List Value} {ps:List (Nat × Nat × Operand)}:AStep P (.build z ps) d st K=goP (ZeN (z.map .sc) (ps.map fun p=>(p.1,p.2.1,ev P st p.2.2))) d st K:=rfl
theorem Zr9 {es:Option Nat} {ps:List Operand}:AStep P (.bslice es ps) d st K=goP (Zl5 es (ps.map (ev P st))) d st K:=rfl
theorem Zzt {x:Operand} {i:Nat}:AStep P (.ext x i) d st K=goP (ZEL i (ev P st x)) d st K:=rfl
theorem Zxa {x:Operand}:AStep P (.nilc x) d st K=goP (ZrJ (ev P st x)) d st K:=rfl
theorem Zxb {x:Operand}:AStep P (.len true x) d st K=goP (Ztw (ev P st x)) d st K:=rfl
theorem Zzu {x:Operand}:AStep P (.len false x) d st K=goP (ZCd (ev P st x)) d st K:=rfl
theorem Zzv {es:Option Nat} {b:Nat} {x y:Operand}:AStep P (.app es b x y) d st K=goH (ZB5 es b (ev P st x) (ev P st y) st.hp st.gc (d.getD 0)) d st K:=rfl
theorem Zxc {b:Nat} {x y:Operand}:AStep P (.apps b x y) d st K=goH (ZqD b (ev P st x) (ev P st y) st.hp st.gc (d.getD 0)) d st K:=rfl
theorem Zxd {es:Option Nat} {b:Nat} {z:List Value} {x y:Operand}:AStep P (.appz es b z x y) d st K=goH (Zpl es b z (ev P st x) (ev P st y) st.hp st.gc (d.getD 0)) d st K:=rfl
theorem Zxe {x:Operand}:AStep P (.capn x) d st K=goP (ZrK (ev P st x)) d st K:=rfl
theorem Zzw {es:Option Nat} {b:Nat} {z:List Value} {x y:Operand}:AStep P (.mks es b z x y) d st K=goH (ZEm es b z (ev P st x) (ev P st y) st.hp st.gc (d.getD 0)) d st K:=rfl
theorem Zt0 {sz:Option Nat} {x y:Operand}:AStep P (.store sz x y) d st K=goH (ZaZ sz (ev P st x) (ev P st y) st.hp st.gc) d st K:=rfl
theorem Zt1 {z:List Value}:AStep P (.alloc z) d st K=goH (True,.op (d.getD 0) st.gc 0,Zbr st.hp (d.getD 0) (some (st.gc,.row false (z.map .sc))),st.gc+1) d st K:=rfl
theorem Zzx {es:Option Nat} {ps:List Operand}:AStep P (.bsl es ps) d st K=goH (ZwA es (ps.map (ev P st)) st.hp st.gc (d.getD 0)) d st K:=rfl
theorem Zzy {es:Option Nat}:AStep P (.emp es) d st K=goH (True,.own (d.getD 0) st.gc es 0 0,Zbr st.hp (d.getD 0) (some (st.gc,.row false [])),st.gc+1) d st K:=rfl
theorem Zzz {x:Operand}:AStep P (.box x) d st K=goH (ZEn (ev P st x) st.hp st.gc (d.getD 0)) d st K:=rfl
theorem Zxf {x y:Operand}:AStep P (.copy x y) d st K=goH (ZrN (ev P st x) (ev P st y) st.hp st.gc) d st K:=rfl
def goV (P:Program) [Tabs P] (h:Bool) (x:AV) (ins:List AV) (d:Option Nat) (st:ASt) (K:ASt→Prop):Prop:=∃ f caps,ZIv x=some (f,caps)∧ZhJ P f=true∧goC P h f (ins++caps) d st K
theorem Zsa {h:Bool} {x:AV} {ins:List AV} (f:Nat) (hx:x = .sc (.func (.func f) #[] #[])) (hc:ZhJ P f=true) (hg:goC P h f ins d st K):goV P h x ins d st K:=⟨f,[],by subst hx;rfl,hc,by rw [List.append_nil];exact hg⟩
theorem Zt2 {h:Bool} {f:Nat} {caps ins:List AV} (hc:ZhJ P f=true) (hg:goC P h f (ins++caps) d st K):goV P h (.clo f caps) ins d st K:=⟨f,caps,rfl,hc,hg⟩
theorem ZzA {f:Nat} {caps:List Operand}:AStep P (.mkf f caps) d st K=goP (True,.clo f (caps.map (ev P st))) d st K:=rfl
theorem ZzB:AStep P .mkm d st K=goH (True,.mp (d.getD 0) st.gc,Zbr st.hp (d.getD 0) (some (st.gc,.row false [.tup []])),st.gc+1) d st K:=rfl
theorem Zxg {ok:Bool} {z zv:Value} {x k:Operand}:AStep P (.mget ok z zv x k) d st K=goP (Ztx ok z zv (ev P st x) (ev P st k) st.hp) d st K:=rfl
theorem Zxh {z:Value} {x k v:Operand}:AStep P (.mset z x k v) d st K=goH (ZqB z (ev P st x) (ev P st k) (ev P st v) st.hp st.gc) d st K:=rfl
theorem Zxi {z:Value} {x k:Operand}:AStep P (.mdel z x k) d st K=goH (ZqC z (ev P st x) (ev P st k) st.hp st.gc) d st K:=rfl
theorem Zxj {x:Operand}:AStep P (.mlen x) d st K=goP (Zty (ev P st x) st.hp) d st K:=rfl
theorem ZCE {mx:Bool} {x:Operand} {xs:List Operand}:AStep P (.mm mx x xs) d st K=goP (aMm mx (ev P st x) (xs.map (ev P st))) d st K:=rfl
@[congr] theorem ZHg {t:Bool} {x x':AV} {p p':List AV} (hx:x=x') (h:p=p') (h':st=st'):goV P t x p d st K=goV P t x' p' d st' K:=by rw [hx,h,h']
theorem Zt3 {t:Bool} {x:Operand} {args:List Operand}:AStep P (.callv t x args) d st K=goV P t (ev P st x) (args.map (ev P st)) d st K:=rfl
theorem Zxk {t:Bool} {f:Nat} {args:List Operand}:AStep P (.call t f args) d st K=goC P t f (args.map (ev P st)) d st K:=rfl
theorem ZbI {x:Int} (h1:-9223372036854775808≤x) (h2:x≤9223372036854775807):IntKind.i64.wrap x=x:=by rw [IntKind.wrap_i64];omega
theorem ZzC {x:Int}:IntKind.u8.wrap x=x % 256:=by simp [IntKind.wrap,IntKind.bits,IntKind.signed]
theorem Zmf {x:Int} (h1:0≤x) (h2:x<256):IntKind.u8.wrap x=x:=by rw [ZzC];omega
end
end Go.Proofs.YtbcncdpaigljeaaGreatDoor.Aw
