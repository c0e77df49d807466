/- Parts of the proof of GzipUnpacks. -/
import Derived.Test.YtfplkgciebjehabGreatDoorQGzipUnpacksAU
import Derived.Lib.Hide
namespace Go.Proofs.YtfplkgciebjehabGreatDoor.Aw
open Go
set_option linter.unusedSimpArgs false
set_option linter.unusedVariables false
abbrev T (t:Nat):Operand:=.tmp t
abbrev C (n:Int):Operand:=.const (.int .i64 n)
def goP (p:Prop × AV) (d:Option Nat) (st:ASt) (K:ASt→Prop):Prop:=p.1∧K (st.put d p.2)
def goH (p:Prop × AV × Hp × Nat) (d:Option Nat) (st:ASt) (K:ASt→Prop):Prop:=p.1∧K (ASt.put ⟨st.tm,p.2.2.1,p.2.2.2,st.N⟩ d p.2.1)
def goC (P:Program) [Tabs P] (h:Bool) (f:Nat) (ins:List AV) (d:Option Nat) (st:ASt) (K:ASt→Prop):Prop:=(∃ out,Zl0 P f ins st.hp out∧K (st.put d out))∨(h=true∧∃ r hp' c',ZkA P f ins st.hp st.gc r hp' c'∧K (ASt.put ⟨st.tm,hp',c',st.N⟩ d r))
def goB (g:AV) (want:Bool) (A B:Prop):Prop:=∃ b,gIs g want b∧(b=want→A)∧(b=!want→B)
section
variable {P:Program} [Tabs P] {st st':ASt} {K:ASt→Prop} {d:Option Nat}
@[congr] theorem ZBR {p p':Prop × AV} (h:p=p') (h':st=st'):goP p d st K=goP p' d st' K:=by rw [h,h']
@[congr] theorem ZBS {p p':Prop × AV × Hp × Nat} (h:p=p') (h':st=st'):goH p d st K=goH p' d st' K:=by rw [h,h']
@[congr] theorem ZBT {t:Bool} {f:Nat} {p p':List AV} (h:p=p') (h':st=st'):goC P t f p d st K=goC P t f p' d st' K:=by rw [h,h']
@[congr] theorem ZBE {sl:List SOper} (h':st=st'):AOps P sl K st=AOps P sl K st':=by rw [h']
@[congr] theorem ZzS {s:SOp} (h':st=st'):AStep P s d st K=AStep P s d st' K:=by rw [h']
@[congr] theorem ZBU {c:SCode} {Q:Ex→ASt→Prop} (h':st=st'):SWp P c Q st=SWp P c Q st':=by rw [h']
@[congr] theorem ZBV {b:SCode} {Q:Ex→ASt→Prop} {e e':Ex} (h:e=e') (h':st=st'):thn P b Q e st=thn P b Q e' st':=by rw [h,h']
@[congr] theorem ZBW {i:Nat} {Q:Ex→ASt→Prop} {e e':Ex} (h:e=e') (h':st=st'):inb i Q e st=inb i Q e' st':=by rw [h,h']
@[congr] theorem ZBX {g g':AV} {want:Bool} {A B:Prop} (h:g=g'):goB g want A B=goB g' want A B:=by rw [h]
theorem ZBY {p:Prop} {v:AV}:goP (p,v) d st K=(p∧K (st.put d v)):=rfl
theorem ZBZ {p:Prop} {v:AV} {hp:Hp} {gc:Nat}:goH (p,v,hp,gc) d st K=(p∧K (ASt.put ⟨st.tm,hp,gc,st.N⟩ d v)):=rfl
theorem ZxN {tm:Nat→AV} {hp:Hp} {gc N t:Nat} {v:AV}:ASt.put ⟨tm,hp,gc,N⟩ (some t) v=⟨upd tm t v,hp,gc,N⟩:=rfl
theorem ZxO {v:AV}:ASt.put st none v=st:=rfl
theorem ZB0 {tm:Nat→AV} {hp:Hp} {gc N t:Nat}:ev P ⟨tm,hp,gc,N⟩ (.tmp t)=tm t:=(rfl)
theorem Zpo {g:Nat} {xs:List AV} (h:Tabs.tab P g=some xs):ev P st (.global g) = .fp (.agg xs) 0:=by simp only [ev,h]
theorem ZxP {v:Value}:ev P st (.const v) = .sc v:=rfl
theorem ZzT {f:Nat}:ev P st (.func f) = .sc (.func (.func f) #[] #[]):=rfl
theorem ZB1 {f:Nat→AV} {t s:Nat} {v:AV}:upd f t v s=if s=t then v else f s:=(rfl)
theorem ZzU {f:Hp} {t s:Nat} {v:Option (Nat × AO)}:Za8 f t v s=if s=t then v else f s:=rfl
theorem ZxQ {t:Nat}:Zse [] t = .junk:=(rfl)
theorem Zvl {s t:Nat} {v:AV} {r:List (Nat × AV)}:Zse ((s,v)::r) t=if t=s then v else Zse r t:=(rfl)
theorem Zvm {t:Nat}:ZcR [] t=none:=rfl
theorem Ztn {s t:Nat} {v:Nat × AO} {r:List (Nat × Nat × AO)}:ZcR ((s,v)::r) t=if t=s then some v else ZcR r t:=rfl
theorem ZB2 {N gc:Nat} {l:List (Nat × AV)} {h:List (Nat × Nat × AO)}:mk N gc l h=⟨Zse l,ZcR h,gc,N⟩:=rfl
theorem ZxR {N:Nat} {ins:List AV}:start N ins=⟨fun t=>ins.getD t .junk,fun _=>none,0,N⟩:=rfl
theorem ZxS:AOps P [] K st=K st:=rfl
theorem Zvn {s:SOp} {r:List SOper}:AOps P (⟨d,s,none⟩::r) K st=AStep P s d st (AOps P r K):=rfl
theorem Zvo {s:SOp} {g:Nat} {want:Bool} {r:List SOper}:AOps P (⟨d,s,some (g,want)⟩::r) K st=goB (st.tm g) want (AStep P s d st (AOps P r K)) (AOps P r K (st.put d (.sc undef))):=rfl
theorem ZxT {b want:Bool} {A B:Prop}:goB (.sc (.bool b)) want A B=((b=want→A)∧(b=!want→B)):=by
 apply propext
 constructor
 ·rintro ⟨c,hc,h1,h2⟩
  rcases hc with hc | ⟨hc,_⟩
  ·simp only [AV.sc.injEq,Value.bool.injEq] at hc
   subst hc;exact ⟨h1,h2⟩
  ·simp [undef] at hc
 ·rintro ⟨h1,h2⟩;exact ⟨b,.inl rfl,h1,h2⟩
theorem ZxU {A B:Prop}:goB (.sc (.bool true)) true A B=A:=by simp [ZxT]
theorem Zvp {A B:Prop}:goB (.sc (.bool false)) true A B=B:=by simp [ZxT]
theorem Zvq {A B:Prop}:goB (.sc (.bool true)) false A B=B:=by simp [ZxT]
theorem Zto {A B:Prop}:goB (.sc (.bool false)) false A B=A:=by simp [ZxT]
theorem Zvr {want:Bool} {A B:Prop}:goB (.sc (.tuple #[])) want A B=B:=by
 apply propext
 constructor
 ·rintro ⟨c,hc,_,h2⟩
  rcases hc with hc | ⟨_,hc⟩
  ·simp at hc
  ·exact h2 hc
 ·intro h;exact ⟨!want,.inr ⟨rfl,rfl⟩,fun h=>by cases want <;> simp at h,fun _=>h⟩
theorem ZxV {x:Operand}:AStep P (.mv x) d st K=K (st.put d (ev P st x)):=by simp [AStep,SOp.isHv,pv]
theorem Ztp {c a b:Operand}:AStep P (.pick c a b) d st K=goP (Zql (ev P st c) (ev P st a) (ev P st b)) d st K:=rfl
theorem Zvs {op:BinOp} {x y:Operand}:AStep P (.bin op x y) d st K=goP (ZhX op (ev P st x) (ev P st y)) d st K:=rfl
theorem Zvt {n:Bool} {x y:Operand}:AStep P (.beq n x y) d st K=goP (Zxw n (ev P st x) (ev P st y)) d st K:=rfl
theorem Zvu {n:Bool} {z:Value} {x y:Operand}:AStep P (.aeq n z x y) d st K=goP (Zzp n z (ev P st x) (ev P st y)) d st K:=rfl
theorem ZqO {n:Bool} {x:Operand}:AStep P (.isnil n x) d st K=goP (ZgH n (frz st.hp (ev P st x))) d st K:=rfl
theorem Zpp {n:Bool} {x:Operand}:AStep P (.isnilp n x) d st K=goP (Zfl n (ev P st x)) d st K:=rfl
theorem Ztq {x:Operand}:AStep P (.strz x) d st K=goH (Zo3 (ev P st x) st.hp st.gc) d st K:=rfl
theorem ZxW {op:UnOp} {x:Operand}:AStep P (.un op x) d st K=goP (aUn op (ev P st x)) d st K:=rfl
theorem ZxX {k:IntKind} {x:Operand}:AStep P (.ci k x) d st K=goP (aCi k (ev P st x)) d st K:=rfl
theorem Zvv {x:Operand}:AStep P (.sid x) d st K=goP ((ZoZ (ev P st x)).1,ev P st x) d st K:=rfl
theorem Zvw {x:Operand}:AStep P (.b2s x) d st K=goP (Zzn (frz st.hp (ev P st x))) d st K:=rfl
theorem Zvx {x:Operand}:AStep P (.s2b x) d st K=goP (ZBz (ev P st x)) d st K:=rfl
theorem Zvy {x:Operand} {lo hi:Option Operand}:AStep P (.sls x lo hi) d st K=goP (ZzD (ev P st x) (lo.map (ev P st)) (hi.map (ev P st))) d st K:=rfl
theorem ZxY {es:Option Nat} {x:Operand} {lo hi:Option Operand}:AStep P (.sl es x lo hi) d st K=goP (aSl es (ev P st x) (lo.map (ev P st)) (hi.map (ev P st))) d st K:=rfl
theorem Zvz {es:Option Nat} {x hi mx:Operand} {lo:Option Operand}:AStep P (.sl3 es x lo hi mx) d st K=goP (Zxx es (ev P st x) (lo.map (ev P st)) (ev P st hi) (ev P st mx)) d st K:=rfl
theorem ZvA {n:Nat} {es:Option Nat} {x:Operand} {lo hi:Option Operand}:AStep P (.sla n es x lo hi) d st K=goP (Zzo n es (ev P st x) (lo.map (ev P st)) (hi.map (ev P st)) st.hp) d st K:=rfl
theorem ZqP {o:Nat} {x:Operand}:AStep P (.faddr o x) d st K=goP (Zla o (ev P st x)) d st K:=rfl
theorem ZvB {o:Nat} {sz:Option Nat} {x:Operand}:AStep P (.fld o sz x) d st K=goP (ZzE o sz (ev P st x)) d st K:=rfl
theorem ZqQ {es:Option Nat} {x i:Operand}:AStep P (.iaddr es x i) d st K=goP (Zlb es (ev P st x) (ev P st i)) d st K:=rfl
theorem Zpq {n:Nat} {es:Option Nat} {x i:Operand}:AStep P (.iaddrA n es x i) d st K=goP (ZhY n es (ev P st x) (ev P st i)) d st K:=rfl
theorem Ztr {x i:Operand}:AStep P (.idxS x i) d st K=goP (Zqm (ev P st x) (ev P st i)) d st K:=rfl
theorem Zts {n:Nat} {es:Option Nat} {x i:Operand}:AStep P (.idxA n es x i) d st K=goP (Zqn n es (ev P st x) (ev P st i)) d st K:=rfl
theorem Ztt {sz:Option Nat} {x:Operand}:AStep P (.load sz x) d st K=goP (ZeL sz (ev P st x) st.hp) d st K:=rfl
theorem ZqR {z:List Value} {ps:List (Nat × Nat × Operand)}:AStep P (.build z ps) d st K=goP (Zeq (z.map .sc) (ps.map fun p=>(p.1,p.2.1,ev P st p.2.2))) d st K:=rfl
theorem Zpr {es:Option Nat} {ps:List Operand}:AStep P (.bslice es ps) d st K=goP (Zky es (ps.map (ev P st))) d st K:=rfl
theorem ZvC {x:Operand} {i:Nat}:AStep P (.ext x i) d st K=goP (ZzF i (ev P st x)) d st K:=rfl
theorem Ztu {x:Operand}:AStep P (.nilc x) d st K=goP (Zo0 (ev P st x)) d st K:=rfl
theorem Ztv {x:Operand}:AStep P (.len true x) d st K=goP (Zqo (ev P st x)) d st K:=rfl
theorem ZvD {x:Operand}:AStep P (.len false x) d st K=goP (Zxy (ev P st x)) d st K:=rfl
theorem ZvE {es:Option Nat} {b:Nat} {x y:Operand}:AStep P (.app es b x y) d st K=goH (Zxr es b (ev P st x) (ev P st y) st.hp st.gc (d.getD 0)) d st K:=rfl
theorem Ztw {b:Nat} {x y:Operand}:AStep P (.apps b x y) d st K=goH (ZnW b (ev P st x) (ev P st y) st.hp st.gc (d.getD 0)) d st K:=rfl
theorem Ztx {es:Option Nat} {b:Nat} {z:List Value} {x y:Operand}:AStep P (.appz es b z x y) d st K=goH (ZmR es b z (ev P st x) (ev P st y) st.hp st.gc (d.getD 0)) d st K:=rfl
theorem Zty {x:Operand}:AStep P (.capn x) d st K=goP (Zo1 (ev P st x)) d st K:=rfl
theorem ZvF {es:Option Nat} {b:Nat} {z:List Value} {x y:Operand}:AStep P (.mks es b z x y) d st K=goH (Zzq es b z (ev P st x) (ev P st y) st.hp st.gc (d.getD 0)) d st K:=rfl
theorem ZqS {sz:Option Nat} {x y:Operand}:AStep P (.store sz x y) d st K=goH (Za3 sz (ev P st x) (ev P st y) st.hp st.gc) d st K:=rfl
theorem ZqT {z:List Value}:AStep P (.alloc z) d st K=goH (True,.op (d.getD 0) st.gc 0,Za8 st.hp (d.getD 0) (some (st.gc,.row false (z.map .sc))),st.gc+1) d st K:=rfl
theorem ZvG {es:Option Nat} {ps:List Operand}:AStep P (.bsl es ps) d st K=goH (ZsS es (ps.map (ev P st)) st.hp st.gc (d.getD 0)) d st K:=rfl
theorem ZvH {es:Option Nat}:AStep P (.emp es) d st K=goH (True,.own (d.getD 0) st.gc es 0 0,Za8 st.hp (d.getD 0) (some (st.gc,.row false [])),st.gc+1) d st K:=rfl
theorem ZvI {x:Operand}:AStep P (.box x) d st K=goH (Zzr (ev P st x) st.hp st.gc (d.getD 0)) d st K:=rfl
theorem Ztz {x y:Operand}:AStep P (.copy x y) d st K=goH (Zo4 (ev P st x) (ev P st y) st.hp st.gc) d st K:=rfl
def goV (P:Program) [Tabs P] (h:Bool) (x:AV) (ins:List AV) (d:Option Nat) (st:ASt) (K:ASt→Prop):Prop:=∃ f caps,ZC8 x=some (f,caps)∧ZjI P f=true∧goC P h f (ins++caps) d st K
theorem ZvJ {f:Nat} {caps:List Operand}:AStep P (.mkf f caps) d st K=goP (True,.clo f (caps.map (ev P st))) d st K:=rfl
theorem ZvK:AStep P .mkm d st K=goH (True,.mp (d.getD 0) st.gc,Za8 st.hp (d.getD 0) (some (st.gc,.row false [.tup []])),st.gc+1) d st K:=rfl
theorem ZtA {ok:Bool} {z zv:Value} {x k:Operand}:AStep P (.mget ok z zv x k) d st K=goP (Zqp ok z zv (ev P st x) (ev P st k) st.hp) d st K:=rfl
theorem ZtB {z:Value} {x k v:Operand}:AStep P (.mset z x k v) d st K=goH (ZnU z (ev P st x) (ev P st k) (ev P st v) st.hp st.gc) d st K:=rfl
theorem ZtC {z:Value} {x k:Operand}:AStep P (.mdel z x k) d st K=goH (ZnV z (ev P st x) (ev P st k) st.hp st.gc) d st K:=rfl
theorem ZtD {x:Operand}:AStep P (.mlen x) d st K=goP (Zqq (ev P st x) st.hp) d st K:=rfl
theorem ZxZ {mx:Bool} {x:Operand} {xs:List Operand}:AStep P (.mm mx x xs) d st K=goP (aMm mx (ev P st x) (xs.map (ev P st))) d st K:=rfl
@[congr] theorem ZB3 {t:Bool} {x x':AV} {p p':List AV} (hx:x=x') (h:p=p') (h':st=st'):goV P t x p d st K=goV P t x' p' d st' K:=by rw [hx,h,h']
theorem ZqU {t:Bool} {x:Operand} {args:List Operand}:AStep P (.callv t x args) d st K=goV P t (ev P st x) (args.map (ev P st)) d st K:=rfl
theorem ZtE {t:Bool} {f:Nat} {args:List Operand}:AStep P (.call t f args) d st K=goC P t f (args.map (ev P st)) d st K:=rfl
theorem Zch {x:Int} (h1:-9223372036854775808≤x) (h2:x≤9223372036854775807):IntKind.i64.wrap x=x:=by rw [IntKind.wrap_i64];omega
theorem ZvL {x:Int}:IntKind.u8.wrap x=x % 256:=by simp [IntKind.wrap,IntKind.bits,IntKind.signed]
theorem ZtF {x:Int} (h1:0≤x) (h2:x<256):IntKind.u8.wrap x=x:=by rw [ZvL];omega
end
end Go.Proofs.YtfplkgciebjehabGreatDoor.Aw
