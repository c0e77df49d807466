/- Parts of the proof of GzipUnpacks. -/
import Derived.Test.YtfplkgciebjehabGreatDoorQGzipUnpacksAZ
namespace Go.Proofs.YtfplkgciebjehabGreatDoor.Aw
open Go
set_option linter.unusedSimpArgs false
set_option linter.unusedVariables false
def w32 (x:UInt32):AV:=.sc (.int .u32 (x.toNat:Int))
theorem ZAl {a b:UInt32}:(w32 a=w32 b)=(a=b):=by
 apply propext
 constructor
 ·intro h
  simp only [w32,AV.sc.injEq,Value.int.injEq,true_and] at h
  exact UInt32.toNat_inj.1 (by omega)
 ·rintro rfl;rfl
theorem ZdC (n:Int):IntKind.u32.wrap n=n % 4294967296:=by simp [IntKind.wrap,IntKind.bits,IntKind.signed]
theorem ZgO {n:Int} {x:UInt32} (h:n=(x.toNat:Int)):AV.sc (.int .u32 n)=w32 x:=by rw [h];rfl
theorem ZAm {n:Nat} (h:n<4294967296):AV.sc (.int .u32 (no_index (@OfNat.ofNat Int n instOfNat)))=w32 (UInt32.ofNat n):=by
 refine ZgO ?_
 rw [UInt32.toNat_ofNat']
 show (n:Int)=_
 omega
theorem ZAn (a:UInt32):BitVec.ofInt 32 (a.toNat:Int)=a.toBitVec:=by
 apply BitVec.eq_of_toNat_eq
 have:=a.toNat_lt
 simp only [BitVec.toNat_ofInt,UInt32.toNat_toBitVec]
 omega
theorem ZAo {a b:UInt32}:ZhX .add (w32 a) (w32 b)=(True,w32 (a+b)):=by
 simp only [w32,ZhX,ZbG,Prod.mk.injEq,true_and]
 refine ZgO ?_
 rw [ZdC,UInt32.toNat_add];omega
theorem ZAp {a b:UInt32}:ZhX .sub (w32 a) (w32 b)=(True,w32 (a-b)):=by
 simp only [w32,ZhX,ZbG,Prod.mk.injEq,true_and]
 refine ZgO ?_
 have:=a.toNat_lt
 have:=b.toNat_lt
 rw [ZdC,UInt32.toNat_sub];omega
theorem ZAq {a b:UInt32}:ZhX .xor (w32 a) (w32 b)=(True,w32 (a ^^^ b)):=by
 simp only [w32,ZhX,ZbG,Prod.mk.injEq,true_and]
 refine ZgO ?_
 have:=(a ^^^ b).toNat_lt
 rw [ZdC]
 show (((BitVec.ofInt 32 (a.toNat:Int) ^^^ BitVec.ofInt 32 (b.toNat:Int)).toNat:Nat):Int) % 4294967296=_
 rw [ZAn,ZAn]
 show (((a ^^^ b).toNat:Nat):Int) % 4294967296=_
 omega
theorem ZAr {a b:UInt32}:ZhX .and (w32 a) (w32 b)=(True,w32 (a&&&b)):=by
 simp only [w32,ZhX,ZbG,Prod.mk.injEq,true_and]
 refine ZgO ?_
 have:=(a&&&b).toNat_lt
 rw [ZdC]
 show (((BitVec.ofInt 32 (a.toNat:Int)&&&BitVec.ofInt 32 (b.toNat:Int)).toNat:Nat):Int) % 4294967296=_
 rw [ZAn,ZAn]
 show (((a&&&b).toNat:Nat):Int) % 4294967296=_
 omega
theorem ZCv {a b:UInt32}:ZhX .or (w32 a) (w32 b)=(True,w32 (a|||b)):=by
 simp only [w32,ZhX,ZbG,Prod.mk.injEq,true_and]
 refine ZgO ?_
 have:=(a|||b).toNat_lt
 rw [ZdC]
 show (((BitVec.ofInt 32 (a.toNat:Int)|||BitVec.ofInt 32 (b.toNat:Int)).toNat:Nat):Int) % 4294967296=_
 rw [ZAn,ZAn]
 show (((a|||b).toNat:Nat):Int) % 4294967296=_
 omega
theorem ZAs {a:UInt32}:aUn .xor (w32 a)=(True,w32 (~~~a)):=by
 simp only [w32,aUn,Prod.mk.injEq,true_and]
 refine ZgO ?_
 have:=a.toNat_lt
 have h:=(~~~a).toNat_lt
 rw [ZdC]
 show (((BitVec.ofInt 32 (4294967295:Int) ^^^ BitVec.ofInt 32 (a.toNat:Int)).toNat:Nat):Int) % 4294967296=_
 rw [ZAn]
 have e:BitVec.ofInt 32 (4294967295:Int)=BitVec.allOnes 32:=by decide
 rw [e,BitVec.allOnes_xor]
 show (((~~~a).toNat:Nat):Int) % 4294967296=_
 omega
theorem ZAt {a b:UInt32}:ZhX .eql (w32 a) (w32 b)=(True,boo (decide (a=b))):=by
 simp only [w32,ZhX,ZbG,Prod.mk.injEq,true_and]
 congr 1
 apply decide_eq_decide.2
 rw [←UInt32.toNat_inj];omega
theorem ZAu {a b:UInt32}:ZhX .neq (w32 a) (w32 b)=(True,boo (!decide (a=b))):=by
 simp only [w32,ZhX,ZbG,Prod.mk.injEq,true_and]
 congr 2
 apply decide_eq_decide.2
 rw [←UInt32.toNat_inj];omega
theorem Zwb {a:UInt32} {k:IntKind} {n:Nat}:ZhX .shr (w32 a) (.sc (.int k (n:Int)))=(True,w32 (UInt32.ofNat (a.toNat / 2^min n 32))):=by
 simp only [w32,ZhX,ZbG,Prod.mk.injEq]
 refine ⟨by simp,?_⟩
 refine ZgO ?_
 have:=a.toNat_lt
 have h:a.toNat / 2^min n 32≤a.toNat:=Nat.div_le_self _ _
 rw [UInt32.toNat_ofNat',Nat.mod_eq_of_lt (by omega),Int.toNat_natCast]
 show ((a.toNat:Int)).fdiv (2^min n 32)=_
 have hp:(0:Int)≤2^min n 32:=Int.le_of_lt (Int.pow_pos (by omega))
 rw [Int.fdiv_eq_ediv_of_nonneg _ hp]
 push_cast;rfl
theorem ZAv {a:UInt32} {k:IntKind} {n:Nat}:ZhX .shl (w32 a) (.sc (.int k (n:Int)))=(True,w32 (UInt32.ofNat (a.toNat*2^min n 32))):=by
 simp only [w32,ZhX,ZbG,Prod.mk.injEq]
 refine ⟨by simp,?_⟩
 refine ZgO ?_
 rw [UInt32.toNat_ofNat',ZdC,Int.toNat_natCast]
 show (((a.toNat:Int))*2^min n 32) % 4294967296=_
 have:((a.toNat:Int))*2^min n 32=((a.toNat*2^min n 32:Nat):Int):=by push_cast;rfl
 rw [this];omega
theorem Zwc {a b:UInt32} (h:b≠0):ZhX .quo (w32 a) (w32 b)=(True,w32 (a / b)):=by
 simp only [w32,ZhX,ZbG,Prod.mk.injEq]
 have hb:¬ ((b.toNat:Int)=0):=fun e=>h (UInt32.toNat_inj.1 (by show b.toNat=0;omega))
 refine ⟨by simpa using hb,ZgO ?_⟩
 have:=a.toNat_lt
 have h':a.toNat / b.toNat≤a.toNat:=Nat.div_le_self _ _
 rw [ZdC,UInt32.toNat_div,Int.tdiv_eq_ediv_of_nonneg (by omega)]
 have:((a.toNat:Int)) / (b.toNat:Int)=((a.toNat / b.toNat:Nat):Int):=by push_cast;rfl
 rw [this]
 generalize a.toNat / b.toNat=q at h' ⊢
 omega
theorem Zre {a b:UInt32} (h:b≠0):ZhX .rem (w32 a) (w32 b)=(True,w32 (a % b)):=by
 simp only [w32,ZhX,ZbG,Prod.mk.injEq]
 have hb:¬ ((b.toNat:Int)=0):=fun e=>h (UInt32.toNat_inj.1 (by show b.toNat=0;omega))
 refine ⟨by simpa using hb,ZgO ?_⟩
 rw [UInt32.toNat_mod,Int.tmod_eq_emod_of_nonneg (by omega)]
 push_cast;rfl
theorem ZCw {a:UInt32} {k:IntKind}:aCi k (w32 a)=(True,.sc (.int k (k.wrap (a.toNat:Int)))):=rfl
theorem ZCx {k:IntKind} {n:Nat}:aCi .u32 (.sc (.int k (n:Int)))=(True,w32 (UInt32.ofNat n)):=by
 simp only [aCi,Prod.mk.injEq,true_and]
 refine ZgO ?_
 rw [ZdC,UInt32.toNat_ofNat'];omega
theorem Zys {n:Nat}:AV.sc (.int .u32 (IntKind.u32.wrap (n:Int)))=w32 (UInt32.ofNat n):=by
 refine ZgO ?_
 rw [ZdC,UInt32.toNat_ofNat'];omega
theorem Zwd {a:UInt32}:Zat (w32 a)=some [w32 a]:=rfl
theorem Zwe {hp:Hp} {a:UInt32}:frz hp (w32 a)=w32 a:=rfl
theorem Zoh {a:UInt32}:(w32 a).free=true:=rfl
theorem Zyt {a:UInt32}:(w32 a).flat=true:=rfl
theorem ZAw {ρ:Nat→Nat→Nat × Nat} {a:UInt32}:ren ρ (w32 a)=w32 a:=rfl
theorem ZCy {a:UInt32}:(w32 a).fo=true:=rfl
theorem ZkL {l:List UInt32}:AV.free.freeL (l.map w32)=true:=ZcZ.2 fun x hx=>by
 obtain ⟨c,_,rfl⟩:=List.mem_map.1 hx
 rfl
theorem Zud {ρ:Nat→Nat→Nat × Nat} {l:List UInt32}:ren.renL ρ (l.map w32)=l.map w32:=Zdz ρ _ ZkL
theorem Zny {hp:Hp}:∀ {l:List UInt32},frz.frzL hp (l.map w32)=l.map w32
 | []=>rfl
 | c::l=>by simp only [List.map_cons,frz.frzL,Zwe,Zny]
theorem Zyu {l:List UInt32} {i:Nat} (h:i<l.length):(l.map w32).getD i .junk=w32 (l.getD i 0):=by
 simp [List.getD,List.getElem?_eq_getElem h]
theorem Zyv {l:List UInt32} {n:Nat}:(l.map w32).take n=(l.take n).map w32:=by simp
theorem Zyw {l:List UInt32} {n:Nat}:(l.map w32).drop n=(l.drop n).map w32:=by simp
theorem Zue {l:List UInt32} {k:Nat} {c:UInt32} (h:k<l.length):(l.take k).map w32++(w32 c::(l.drop (k+1)).map w32)=(l.set k c).map w32:=by
 rw [List.set_eq_take_append_cons_drop,if_pos h]
 simp
theorem Zyx {op:BinOp} {k k':IntKind} {a b:Int}:ZhX op (.sc (.int k a)) (.sc (.int k' b))=ZbG op k a k' b:=rfl
theorem Zyy {op:BinOp} {a b:ByteArray}:ZhX op (.sc (.string a)) (.sc (.string b))=Zxq op a b:=rfl
theorem ZAx {k:IntKind} {n:Int}:aUn .neg (.sc (.int k n))=(True,.sc (.int k (k.wrap (0-n)))):=rfl
theorem ZAy {k:IntKind} {n:Int}:aUn .xor (.sc (.int k n))=(True,.sc (.int k (k.wrap (BitVec.ofInt k.bits (if k.signed then -1 else k.max) ^^^ BitVec.ofInt k.bits n).toNat))):=rfl
theorem ZAz {b:Bool}:aUn .not (.sc (.bool b))=(True,boo !b):=rfl
theorem ZAA {k k':IntKind} {n:Int}:aCi k (.sc (.int k' n))=(True,.sc (.int k (k.wrap n))):=rfl
end Go.Proofs.YtfplkgciebjehabGreatDoor.Aw
