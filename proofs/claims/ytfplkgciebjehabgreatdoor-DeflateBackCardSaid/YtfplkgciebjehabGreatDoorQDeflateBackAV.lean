/- Parts of the proof of DeflateBack. -/
import Derived.Test.YtfplkgciebjehabGreatDoorQDeflateBackAU
namespace Go.Proofs.YtfplkgciebjehabGreatDoor.Aw
open Go
set_option linter.unusedSimpArgs false
set_option linter.unusedVariables false
section
variable {P:Program} [Tabs P] {Q:Ex→ASt→Prop} {st:ASt}
theorem SWp.condT {c:Operand} {x y:SCode} (hc:ev P st c = .sc (.bool true)) (h:SWp P x Q st):SWp P (.cond c x y) Q st:=SWp.cond hc (fun _=>h) (fun h=>Bool.noConfusion h)
theorem SWp.condF {c:Operand} {x y:SCode} (hc:ev P st c = .sc (.bool false)) (h:SWp P y Q st):SWp P (.cond c x y) Q st:=SWp.cond hc (fun h=>Bool.noConfusion h) (fun _=>h)
theorem Zxe {b:SCode}:thn P b Q .normal st=SWp P b Q st:=rfl
theorem ZCj {b:SCode} {i:Nat}:thn P b Q (.exit i) st=Q (.exit i) st:=rfl
theorem ZEz {b:SCode}:thn P b Q .ret st=Q .ret st:=rfl
theorem Zxf {i:Nat}:inb i Q .normal st=Q .normal st:=rfl
theorem ZEA {i:Nat}:inb i Q .ret st=Q .ret st:=rfl
theorem ZCk {i j:Nat}:inb i Q (.exit j) st=if j=i then Q .normal st else Q (.exit j) st:=rfl
theorem At.of {α:Type} {F:α→ASt} {I:α→Prop} {μ:α→Nat} {n:Nat} {s:ASt} (k:α) (hI:I k) (hμ:μ k<n) {N gc:Nat} {l:List (Nat × AV)} {h:List (Nat × Nat × AO)} (hF:F k=mk N gc l h) (hN:N=s.N) (hgc:s.gc≤gc)
  (hl:AllTm s.tm l) (hh:AllHp s.hp h):At F I μ n s:=⟨k,hI,hμ,by rw [hF];exact Zaj hN hgc hl hh⟩
theorem Zzp {α:Type} {F:α→ASt} {I:α→Prop} {μ:α→Nat} {n:Nat}:lp F I μ n Q .normal st=At F I μ n st:=rfl
theorem ZEB {α:Type} {F:α→ASt} {I:α→Prop} {μ:α→Nat} {n i:Nat}:lp F I μ n Q (.exit i) st=Q (.exit i) st:=rfl
theorem ZGO {α:Type} {F:α→ASt} {I:α→Prop} {μ:α→Nat} {n:Nat}:lp F I μ n Q .ret st=Q .ret st:=rfl
@[congr] theorem ZH5 {α:Type} {F:α→ASt} {I:α→Prop} {μ:α→Nat} {n:Nat} {e e':Ex} {st':ASt} (h:e=e') (h':st=st'):lp F I μ n Q e st=lp F I μ n Q e' st':=by rw [h,h']
@[congr] theorem ZH6 {α:Type} {F:α→ASt} {I:α→Prop} {μ:α→Nat} {n:Nat} {st':ASt} (h':st=st'):At F I μ n st=At F I μ n st':=by rw [h']
theorem ZEC {rs:List RV} {out:AV}:fin rs out .ret st=(ZkM st rs∧frz st.hp (Zih st rs)=out):=rfl
theorem Zxg {rs:List RV} {out:AV}:fin rs out .normal st=(ZkM st rs∧frz st.hp (Zih st rs)=out):=rfl
@[congr] theorem ZGP {rs:List RV} {out:AV} {e e':Ex} {st':ASt} (h:e=e') (h':st=st'):fin rs out e st=fin rs out e' st':=by rw [h,h']
theorem Zzq:ZkM st []=True:=rfl
theorem Zxh {r:RV} {rs:List RV}:ZkM st (r::rs)=((Zvu st r).1∧ZkM st rs):=rfl
theorem Zzr {r:RV}:Zih st [r]=(Zvu st r).2:=rfl
theorem Zxi {r r':RV} {rs:List RV}:Zih st (r::r'::rs) = .tup ((r::r'::rs).map fun r=>(Zvu st r).2):=rfl
theorem ZCl {t:Nat}:Zvu st (.tmp t)=(True,st.tm t):=rfl
theorem Zzs {t:Nat} {sz:Option Nat}:Zvu st (.cell t sz)=Zht sz (st.tm t) st.hp:=rfl
theorem Zzt {f:Nat→AV}:AllTm f []=True:=rfl
theorem Zxj {f:Nat→AV} {t:Nat} {v:AV} {l:List (Nat × AV)}:AllTm f ((t,v)::l)=(f t=v∧AllTm f l):=rfl
theorem Zzu {f:Hp}:AllHp f []=True:=rfl
theorem Zxk {f:Hp} {t:Nat} {v:Nat × AO} {l:List (Nat × Nat × AO)}:AllHp f ((t,v)::l)=(f t=some v∧AllHp f l):=rfl
theorem Zue {k:IntKind} {a b:Nat} (ha:a<2^k.bits) (hw:k.wrap ((a&&&b:Nat):Int)=((a&&&b:Nat):Int)) :
  k.wrap (BitVec.ofInt k.bits (a:Int)&&&BitVec.ofInt k.bits (b:Int)).toNat=((a&&&b:Nat):Int):=by
 rw [BitVec.toNat_and,BitVec.ofInt_natCast,BitVec.ofInt_natCast,BitVec.toNat_ofNat,BitVec.toNat_ofNat]
 rw [Nat.mod_eq_of_lt ha]
 have:a&&&b % 2^k.bits=a&&&b:=by
  apply Nat.eq_of_testBit_eq
  intro i
  simp only [Nat.testBit_and,Nat.testBit_mod_two_pow]
  by_cases hi:i<k.bits
  ·simp [hi]
  ·have:a.testBit i=false:=Nat.testBit_lt_two_pow (Nat.lt_of_lt_of_le ha (Nat.pow_le_pow_right (by omega) (by omega)))
   simp [this]
 rw [this,hw]
theorem Zvv {n m:Nat}:(n:Int).fdiv (2^m)=((n / 2^m:Nat):Int):=by
 rw [Int.fdiv_eq_ediv_of_nonneg _ (Int.le_of_lt (Int.pow_pos (by omega)))];push_cast;rfl
theorem Zsm {n m:Nat}:(no_index (@OfNat.ofNat Int n instOfNat)).fdiv (2^m)=(((@OfNat.ofNat Nat n (instOfNatNat n)) / 2^m:Nat):Int):=Zvv
theorem ZCm {n m:Nat}:(n:Int).fdiv (no_index (@OfNat.ofNat Int m instOfNat))=((n / (@OfNat.ofNat Nat m (instOfNatNat m)):Nat):Int):=by
 rw [Int.fdiv_eq_ediv_of_nonneg _ (by exact Int.natCast_nonneg m)];rfl
theorem ZCn {n m:Nat}:(n:Int).tdiv (no_index (@OfNat.ofNat Int m instOfNat))=((n / (@OfNat.ofNat Nat m (instOfNatNat m)):Nat):Int):=rfl
theorem ZCo {n m:Nat}:(n:Int).tmod (no_index (@OfNat.ofNat Int m instOfNat))=((n % (@OfNat.ofNat Nat m (instOfNatNat m)):Nat):Int):=rfl
theorem Zq4 {n m:Nat}:((n:Int)+(no_index (@OfNat.ofNat Int m instOfNat))).toNat=n+(@OfNat.ofNat Nat m (instOfNatNat m)):=rfl
theorem Zq5 {n m:Nat}:((n:Int)+(m:Int)).toNat=n+m:=rfl
theorem Zuf {n m:Nat}:(no_index (@OfNat.ofNat Int n instOfNat))*(2:Int)^m=(((@OfNat.ofNat Nat n (instOfNatNat n))*2^m:Nat):Int):=by push_cast;rfl
theorem ZGQ {a:Bool} {b:List AV} {p:List AV→Prop}:(∃ nl cells,(a=nl∧b=cells)∧p cells)=p b:=by
 apply propext
 constructor
 ·rintro ⟨_,_,⟨rfl,rfl⟩,h⟩;exact h
 ·intro h;exact ⟨_,_,⟨rfl,rfl⟩,h⟩
theorem Zug {n m:Nat}:(n:Int)*2^m=((n*2^m:Nat):Int):=by push_cast;rfl
theorem ZCp {k k':IntKind} {a b:Int}:Zci .add k a k' b=(k=k',.sc (.int k (k.wrap (a+b)))):=rfl
theorem ZCq {k k':IntKind} {a b:Int}:Zci .sub k a k' b=(k=k',.sc (.int k (k.wrap (a-b)))):=rfl
theorem ZCr {k k':IntKind} {a b:Int}:Zci .mul k a k' b=(k=k',.sc (.int k (k.wrap (a*b)))):=rfl
theorem ZCs {k k':IntKind} {a b:Int}:Zci .quo k a k' b=(k=k'∧b≠0,.sc (.int k (k.wrap (a.tdiv b)))):=rfl
theorem ZCt {k k':IntKind} {a b:Int}:Zci .rem k a k' b=(k=k'∧b≠0,.sc (.int k (a.tmod b))):=rfl
theorem ZCu {k k':IntKind} {a b:Int}:Zci .shl k a k' b=(0≤b,.sc (.int k (k.wrap (a*2^(min b.toNat k.bits))))):=rfl
theorem ZCv {k k':IntKind} {a b:Int}:Zci .shr k a k' b=(0≤b,.sc (.int k (a.fdiv (2^(min b.toNat k.bits))))):=rfl
theorem ZCw {k k':IntKind} {a b:Int}:Zci .eql k a k' b=(k=k',boo (decide (a=b))):=rfl
theorem ZCx {k k':IntKind} {a b:Int}:Zci .neq k a k' b=(k=k',boo (!decide (a=b))):=rfl
theorem ZCy {k k':IntKind} {a b:Int}:Zci .lss k a k' b=(k=k',boo (decide (a<b))):=rfl
theorem ZCz {k k':IntKind} {a b:Int}:Zci .leq k a k' b=(k=k',boo (decide (a≤b))):=rfl
theorem ZCA {k k':IntKind} {a b:Int}:Zci .gtr k a k' b=(k=k',boo (decide (b<a))):=rfl
theorem ZCB {k k':IntKind} {a b:Int}:Zci .geq k a k' b=(k=k',boo (decide (b≤a))):=rfl
theorem Zq6 {k:IntKind} {n:Nat} (h:n<2^k.bits) (hs:k.signed=false∨n<2^(k.bits-1)):k.wrap (n:Int)=(n:Int):=by
 have h1:((n:Int) % (2^k.bits:Int))=n:=by
  have:(2^k.bits:Int)=((2^k.bits:Nat):Int):=by push_cast;rfl
  rw [this]
  exact Int.emod_eq_of_lt (by omega) (by exact_mod_cast h)
 simp only [IntKind.wrap,h1]
 rcases hs with hs | hs
 ·simp [hs]
 ·have:¬ ((n:Int)≥(2^(k.bits-1):Int)):=by
   have e:(2^(k.bits-1):Int)=((2^(k.bits-1):Nat):Int):=by push_cast;rfl
   rw [e];omega
  simp [this]
theorem ZaM {k:IntKind} {n m:Nat} (h:n<2^k.bits) (hs:k.signed=false∨n<2^(k.bits-1)):Zci .and k (n:Int) k (m:Int)=(True,.sc (.int k ((n&&&m:Nat):Int))):=by
 have hle:n&&&m≤n:=Nat.and_le_left
 have hw:k.wrap ((n&&&m:Nat):Int)=((n&&&m:Nat):Int):=Zq6 (Nat.lt_of_le_of_lt hle h) (hs.imp id fun h=>Nat.lt_of_le_of_lt hle h)
 have:=Zue (k:=k) (b:=m) h hw
 simp only [Zci,this]
theorem ZaO {k:IntKind} {n m b:Nat} (hn:n<2^b) (hm:m<2^b) (hb:b≤k.bits) (hs:k.signed=false∨b≤k.bits-1):Zci .or k (n:Int) k (m:Int)=(True,.sc (.int k ((n|||m:Nat):Int))):=by
 have hlt:n|||m<2^b:=Nat.or_lt_two_pow hn hm
 have hp:2^b≤2^k.bits:=Nat.pow_le_pow_right (by omega) hb
 have hw:k.wrap ((n|||m:Nat):Int)=((n|||m:Nat):Int):=Zq6 (Nat.lt_of_lt_of_le hlt hp) (hs.imp id fun h=>Nat.lt_of_lt_of_le hlt (Nat.pow_le_pow_right (by omega) h))
 have e:(BitVec.ofInt k.bits (n:Int)|||BitVec.ofInt k.bits (m:Int)).toNat=n|||m:=by
  rw [BitVec.toNat_or,BitVec.ofInt_natCast,BitVec.ofInt_natCast,BitVec.toNat_ofNat,BitVec.toNat_ofNat,Nat.mod_eq_of_lt (by omega),Nat.mod_eq_of_lt (by omega)]
 simp only [Zci,e,hw]
theorem ZaT {k:IntKind} {n m b:Nat} (hn:n<2^b) (hm:m<2^b) (hb:b≤k.bits) (hs:k.signed=false∨b≤k.bits-1):Zci .xor k (n:Int) k (m:Int)=(True,.sc (.int k ((n ^^^ m:Nat):Int))):=by
 have hlt:n ^^^ m<2^b:=Nat.xor_lt_two_pow hn hm
 have hp:2^b≤2^k.bits:=Nat.pow_le_pow_right (by omega) hb
 have hw:k.wrap ((n ^^^ m:Nat):Int)=((n ^^^ m:Nat):Int):=Zq6 (Nat.lt_of_lt_of_le hlt hp) (hs.imp id fun h=>Nat.lt_of_lt_of_le hlt (Nat.pow_le_pow_right (by omega) h))
 have e:(BitVec.ofInt k.bits (n:Int) ^^^ BitVec.ofInt k.bits (m:Int)).toNat=n ^^^ m:=by
  rw [BitVec.toNat_xor,BitVec.ofInt_natCast,BitVec.ofInt_natCast,BitVec.toNat_ofNat,BitVec.toNat_ofNat,Nat.mod_eq_of_lt (by omega),Nat.mod_eq_of_lt (by omega)]
 simp only [Zci,e,hw]
theorem ZGR {n m:Nat} (h:n<256):Zci .and .u8 (n:Int) .u8 (m:Int)=(True,.sc (.int .u8 ((n&&&m:Nat):Int))):=ZaM h (.inl rfl)
theorem Zxl {n m:Nat} (h:n<256):Zci .and .u8 (n:Int) .u8 (no_index (@OfNat.ofNat Int m instOfNat))=(True,.sc (.int .u8 ((n&&&(@OfNat.ofNat Nat m (instOfNatNat m)):Nat):Int))):=ZaM h (.inl rfl)
theorem ZED {n m:Nat} (h:n<9223372036854775808):Zci .and .i64 (n:Int) .i64 (m:Int)=(True,.sc (.int .i64 ((n&&&m:Nat):Int))):=ZaM (Nat.lt_trans h (by decide)) (.inr h)
theorem Zuh {n m:Nat} (h:n<9223372036854775808):Zci .and .i64 (n:Int) .i64 (no_index (@OfNat.ofNat Int m instOfNat))=(True,.sc (.int .i64 ((n&&&(@OfNat.ofNat Nat m (instOfNatNat m)):Nat):Int))):=ZaM (Nat.lt_trans h (by decide)) (.inr h)
theorem ZEE {n m:Nat} (h:n<4294967296):Zci .and .u32 (n:Int) .u32 (m:Int)=(True,.sc (.int .u32 ((n&&&m:Nat):Int))):=ZaM h (.inl rfl)
theorem Zui {n m:Nat} (h:n<4294967296):Zci .and .u32 (n:Int) .u32 (no_index (@OfNat.ofNat Int m instOfNat))=(True,.sc (.int .u32 ((n&&&(@OfNat.ofNat Nat m (instOfNatNat m)):Nat):Int))):=ZaM h (.inl rfl)
theorem ZEF {n m:Nat} (h:n<18446744073709551616):Zci .and .u64 (n:Int) .u64 (m:Int)=(True,.sc (.int .u64 ((n&&&m:Nat):Int))):=ZaM h (.inl rfl)
theorem Zuj {n m:Nat} (h:n<18446744073709551616):Zci .and .u64 (n:Int) .u64 (no_index (@OfNat.ofNat Int m instOfNat))=(True,.sc (.int .u64 ((n&&&(@OfNat.ofNat Nat m (instOfNatNat m)):Nat):Int))):=ZaM h (.inl rfl)
theorem ZEG {n m:Nat} (h:n<256) (h':m<256):Zci .or .u8 (n:Int) .u8 (m:Int)=(True,.sc (.int .u8 ((n|||m:Nat):Int))):=ZaO (b:=8) h h' (by decide) (.inl rfl)
theorem ZGS {n m:Nat} (h:n<4294967296) (h':m<4294967296):Zci .or .u32 (n:Int) .u32 (m:Int)=(True,.sc (.int .u32 ((n|||m:Nat):Int))):=ZaO (b:=32) h h' (by decide) (.inl rfl)
theorem ZGT {n m:Nat} (h:n<18446744073709551616) (h':m<18446744073709551616):Zci .or .u64 (n:Int) .u64 (m:Int)=(True,.sc (.int .u64 ((n|||m:Nat):Int))):=ZaO (b:=64) h h' (by decide) (.inl rfl)
theorem ZGU {n m:Nat} (h:n<9223372036854775808) (h':m<9223372036854775808):Zci .or .i64 (n:Int) .i64 (m:Int)=(True,.sc (.int .i64 ((n|||m:Nat):Int))):=ZaO (b:=63) h h' (by decide) (.inr (by decide))
theorem ZGV {n m:Nat} (h:n<256) (h':m<256):Zci .xor .u8 (n:Int) .u8 (m:Int)=(True,.sc (.int .u8 ((n ^^^ m:Nat):Int))):=ZaT (b:=8) h h' (by decide) (.inl rfl)
theorem ZEH {n m:Nat} (h:n<4294967296) (h':m<4294967296):Zci .xor .u32 (n:Int) .u32 (m:Int)=(True,.sc (.int .u32 ((n ^^^ m:Nat):Int))):=ZaT (b:=32) h h' (by decide) (.inl rfl)
theorem ZEI {n m:Nat} (h:n<18446744073709551616) (h':m<18446744073709551616):Zci .xor .u64 (n:Int) .u64 (m:Int)=(True,.sc (.int .u64 ((n ^^^ m:Nat):Int))):=ZaT (b:=64) h h' (by decide) (.inl rfl)
theorem Zxm {a b m:Nat} (h:a+b<9223372036854775808) (h':m<9223372036854775808):Zci .or .i64 ((a:Int)+(b:Int)) .i64 (m:Int)=(True,.sc (.int .i64 ((a+b|||m:Nat):Int))):=ZaO (b:=63) h h' (by decide) (.inr (by decide))
theorem ZpB {a b m:Nat} (h:a+b<9223372036854775808) (h':(@OfNat.ofNat Nat m (instOfNatNat m))<9223372036854775808):Zci .or .i64 ((a:Int)+(b:Int)) .i64 (no_index (@OfNat.ofNat Int m instOfNat))=(True,.sc (.int .i64 ((a+b|||(@OfNat.ofNat Nat m (instOfNatNat m)):Nat):Int))):=ZaO (b:=63) h h' (by decide) (.inr (by decide))
theorem Zzv {n m:Nat} (h:n<256) (h':(@OfNat.ofNat Nat m (instOfNatNat m))<256):Zci .or .u8 (n:Int) .u8 (no_index (@OfNat.ofNat Int m instOfNat))=(True,.sc (.int .u8 ((n|||(@OfNat.ofNat Nat m (instOfNatNat m)):Nat):Int))):=ZaO (b:=8) h h' (by decide) (.inl rfl)
theorem Zzw {n m:Nat} (h:(@OfNat.ofNat Nat n (instOfNatNat n))<256) (h':m<256):Zci .or .u8 (no_index (@OfNat.ofNat Int n instOfNat)) .u8 (m:Int)=(True,.sc (.int .u8 (((@OfNat.ofNat Nat n (instOfNatNat n))|||m:Nat):Int))):=ZaO (b:=8) h h' (by decide) (.inl rfl)
theorem ZCC {n m:Nat} (h:(@OfNat.ofNat Nat n (instOfNatNat n))<256) (h':(@OfNat.ofNat Nat m (instOfNatNat m))<256):Zci .or .u8 (no_index (@OfNat.ofNat Int n instOfNat)) .u8 (no_index (@OfNat.ofNat Int m instOfNat))=(True,.sc (.int .u8 (((@OfNat.ofNat Nat n (instOfNatNat n))|||(@OfNat.ofNat Nat m (instOfNatNat m)):Nat):Int))):=ZaO (b:=8) h h' (by decide) (.inl rfl)
theorem Zxn {n m:Nat} (h:n<4294967296) (h':(@OfNat.ofNat Nat m (instOfNatNat m))<4294967296):Zci .or .u32 (n:Int) .u32 (no_index (@OfNat.ofNat Int m instOfNat))=(True,.sc (.int .u32 ((n|||(@OfNat.ofNat Nat m (instOfNatNat m)):Nat):Int))):=ZaO (b:=32) h h' (by decide) (.inl rfl)
theorem Zxo {n m:Nat} (h:(@OfNat.ofNat Nat n (instOfNatNat n))<4294967296) (h':m<4294967296):Zci .or .u32 (no_index (@OfNat.ofNat Int n instOfNat)) .u32 (m:Int)=(True,.sc (.int .u32 (((@OfNat.ofNat Nat n (instOfNatNat n))|||m:Nat):Int))):=ZaO (b:=32) h h' (by decide) (.inl rfl)
theorem Zzx {n m:Nat} (h:(@OfNat.ofNat Nat n (instOfNatNat n))<4294967296) (h':(@OfNat.ofNat Nat m (instOfNatNat m))<4294967296):Zci .or .u32 (no_index (@OfNat.ofNat Int n instOfNat)) .u32 (no_index (@OfNat.ofNat Int m instOfNat))=(True,.sc (.int .u32 (((@OfNat.ofNat Nat n (instOfNatNat n))|||(@OfNat.ofNat Nat m (instOfNatNat m)):Nat):Int))):=ZaO (b:=32) h h' (by decide) (.inl rfl)
theorem Zxp {n m:Nat} (h:n<18446744073709551616) (h':(@OfNat.ofNat Nat m (instOfNatNat m))<18446744073709551616):Zci .or .u64 (n:Int) .u64 (no_index (@OfNat.ofNat Int m instOfNat))=(True,.sc (.int .u64 ((n|||(@OfNat.ofNat Nat m (instOfNatNat m)):Nat):Int))):=ZaO (b:=64) h h' (by decide) (.inl rfl)
theorem Zxq {n m:Nat} (h:(@OfNat.ofNat Nat n (instOfNatNat n))<18446744073709551616) (h':m<18446744073709551616):Zci .or .u64 (no_index (@OfNat.ofNat Int n instOfNat)) .u64 (m:Int)=(True,.sc (.int .u64 (((@OfNat.ofNat Nat n (instOfNatNat n))|||m:Nat):Int))):=ZaO (b:=64) h h' (by decide) (.inl rfl)
theorem Zzy {n m:Nat} (h:(@OfNat.ofNat Nat n (instOfNatNat n))<18446744073709551616) (h':(@OfNat.ofNat Nat m (instOfNatNat m))<18446744073709551616):Zci .or .u64 (no_index (@OfNat.ofNat Int n instOfNat)) .u64 (no_index (@OfNat.ofNat Int m instOfNat))=(True,.sc (.int .u64 (((@OfNat.ofNat Nat n (instOfNatNat n))|||(@OfNat.ofNat Nat m (instOfNatNat m)):Nat):Int))):=ZaO (b:=64) h h' (by decide) (.inl rfl)
theorem Zxr {n m:Nat} (h:n<9223372036854775808) (h':(@OfNat.ofNat Nat m (instOfNatNat m))<9223372036854775808):Zci .or .i64 (n:Int) .i64 (no_index (@OfNat.ofNat Int m instOfNat))=(True,.sc (.int .i64 ((n|||(@OfNat.ofNat Nat m (instOfNatNat m)):Nat):Int))):=ZaO (b:=63) h h' (by decide) (.inr (by decide))
theorem Zxs {n m:Nat} (h:(@OfNat.ofNat Nat n (instOfNatNat n))<9223372036854775808) (h':m<9223372036854775808):Zci .or .i64 (no_index (@OfNat.ofNat Int n instOfNat)) .i64 (m:Int)=(True,.sc (.int .i64 (((@OfNat.ofNat Nat n (instOfNatNat n))|||m:Nat):Int))):=ZaO (b:=63) h h' (by decide) (.inr (by decide))
theorem Zzz {n m:Nat} (h:(@OfNat.ofNat Nat n (instOfNatNat n))<9223372036854775808) (h':(@OfNat.ofNat Nat m (instOfNatNat m))<9223372036854775808):Zci .or .i64 (no_index (@OfNat.ofNat Int n instOfNat)) .i64 (no_index (@OfNat.ofNat Int m instOfNat))=(True,.sc (.int .i64 (((@OfNat.ofNat Nat n (instOfNatNat n))|||(@OfNat.ofNat Nat m (instOfNatNat m)):Nat):Int))):=ZaO (b:=63) h h' (by decide) (.inr (by decide))
theorem Zxt {n m:Nat} (h:n<256) (h':(@OfNat.ofNat Nat m (instOfNatNat m))<256):Zci .xor .u8 (n:Int) .u8 (no_index (@OfNat.ofNat Int m instOfNat))=(True,.sc (.int .u8 ((n ^^^ (@OfNat.ofNat Nat m (instOfNatNat m)):Nat):Int))):=ZaT (b:=8) h h' (by decide) (.inl rfl)
theorem Zxu {n m:Nat} (h:(@OfNat.ofNat Nat n (instOfNatNat n))<256) (h':m<256):Zci .xor .u8 (no_index (@OfNat.ofNat Int n instOfNat)) .u8 (m:Int)=(True,.sc (.int .u8 (((@OfNat.ofNat Nat n (instOfNatNat n)) ^^^ m:Nat):Int))):=ZaT (b:=8) h h' (by decide) (.inl rfl)
theorem ZzA {n m:Nat} (h:(@OfNat.ofNat Nat n (instOfNatNat n))<256) (h':(@OfNat.ofNat Nat m (instOfNatNat m))<256):Zci .xor .u8 (no_index (@OfNat.ofNat Int n instOfNat)) .u8 (no_index (@OfNat.ofNat Int m instOfNat))=(True,.sc (.int .u8 (((@OfNat.ofNat Nat n (instOfNatNat n)) ^^^ (@OfNat.ofNat Nat m (instOfNatNat m)):Nat):Int))):=ZaT (b:=8) h h' (by decide) (.inl rfl)
theorem Zuk {n m:Nat} (h:n<4294967296) (h':(@OfNat.ofNat Nat m (instOfNatNat m))<4294967296):Zci .xor .u32 (n:Int) .u32 (no_index (@OfNat.ofNat Int m instOfNat))=(True,.sc (.int .u32 ((n ^^^ (@OfNat.ofNat Nat m (instOfNatNat m)):Nat):Int))):=ZaT (b:=32) h h' (by decide) (.inl rfl)
theorem Zul {n m:Nat} (h:(@OfNat.ofNat Nat n (instOfNatNat n))<4294967296) (h':m<4294967296):Zci .xor .u32 (no_index (@OfNat.ofNat Int n instOfNat)) .u32 (m:Int)=(True,.sc (.int .u32 (((@OfNat.ofNat Nat n (instOfNatNat n)) ^^^ m:Nat):Int))):=ZaT (b:=32) h h' (by decide) (.inl rfl)
theorem Zxv {n m:Nat} (h:(@OfNat.ofNat Nat n (instOfNatNat n))<4294967296) (h':(@OfNat.ofNat Nat m (instOfNatNat m))<4294967296):Zci .xor .u32 (no_index (@OfNat.ofNat Int n instOfNat)) .u32 (no_index (@OfNat.ofNat Int m instOfNat))=(True,.sc (.int .u32 (((@OfNat.ofNat Nat n (instOfNatNat n)) ^^^ (@OfNat.ofNat Nat m (instOfNatNat m)):Nat):Int))):=ZaT (b:=32) h h' (by decide) (.inl rfl)
theorem Zum {n m:Nat} (h:n<18446744073709551616) (h':(@OfNat.ofNat Nat m (instOfNatNat m))<18446744073709551616):Zci .xor .u64 (n:Int) .u64 (no_index (@OfNat.ofNat Int m instOfNat))=(True,.sc (.int .u64 ((n ^^^ (@OfNat.ofNat Nat m (instOfNatNat m)):Nat):Int))):=ZaT (b:=64) h h' (by decide) (.inl rfl)
theorem Zun {n m:Nat} (h:(@OfNat.ofNat Nat n (instOfNatNat n))<18446744073709551616) (h':m<18446744073709551616):Zci .xor .u64 (no_index (@OfNat.ofNat Int n instOfNat)) .u64 (m:Int)=(True,.sc (.int .u64 (((@OfNat.ofNat Nat n (instOfNatNat n)) ^^^ m:Nat):Int))):=ZaT (b:=64) h h' (by decide) (.inl rfl)
theorem Zxw {n m:Nat} (h:(@OfNat.ofNat Nat n (instOfNatNat n))<18446744073709551616) (h':(@OfNat.ofNat Nat m (instOfNatNat m))<18446744073709551616):Zci .xor .u64 (no_index (@OfNat.ofNat Int n instOfNat)) .u64 (no_index (@OfNat.ofNat Int m instOfNat))=(True,.sc (.int .u64 (((@OfNat.ofNat Nat n (instOfNatNat n)) ^^^ (@OfNat.ofNat Nat m (instOfNatNat m)):Nat):Int))):=ZaT (b:=64) h h' (by decide) (.inl rfl)
theorem Zuo {n m:Nat} (h:n<9223372036854775808) (h':(@OfNat.ofNat Nat m (instOfNatNat m))<9223372036854775808):Zci .xor .i64 (n:Int) .i64 (no_index (@OfNat.ofNat Int m instOfNat))=(True,.sc (.int .i64 ((n ^^^ (@OfNat.ofNat Nat m (instOfNatNat m)):Nat):Int))):=ZaT (b:=63) h h' (by decide) (.inr (by decide))
theorem Zup {n m:Nat} (h:(@OfNat.ofNat Nat n (instOfNatNat n))<9223372036854775808) (h':m<9223372036854775808):Zci .xor .i64 (no_index (@OfNat.ofNat Int n instOfNat)) .i64 (m:Int)=(True,.sc (.int .i64 (((@OfNat.ofNat Nat n (instOfNatNat n)) ^^^ m:Nat):Int))):=ZaT (b:=63) h h' (by decide) (.inr (by decide))
theorem Zxx {n m:Nat} (h:(@OfNat.ofNat Nat n (instOfNatNat n))<9223372036854775808) (h':(@OfNat.ofNat Nat m (instOfNatNat m))<9223372036854775808):Zci .xor .i64 (no_index (@OfNat.ofNat Int n instOfNat)) .i64 (no_index (@OfNat.ofNat Int m instOfNat))=(True,.sc (.int .i64 (((@OfNat.ofNat Nat n (instOfNatNat n)) ^^^ (@OfNat.ofNat Nat m (instOfNatNat m)):Nat):Int))):=ZaT (b:=63) h h' (by decide) (.inr (by decide))
theorem Zxy {n m:Nat} (h:(@OfNat.ofNat Nat n (instOfNatNat n))<256):Zci .and .u8 (no_index (@OfNat.ofNat Int n instOfNat)) .u8 (m:Int)=(True,.sc (.int .u8 (((@OfNat.ofNat Nat n (instOfNatNat n))&&&m:Nat):Int))):=ZaM h (.inl rfl)
theorem ZzB {n m:Nat} (h:(@OfNat.ofNat Nat n (instOfNatNat n))<256):Zci .and .u8 (no_index (@OfNat.ofNat Int n instOfNat)) .u8 (no_index (@OfNat.ofNat Int m instOfNat))=(True,.sc (.int .u8 (((@OfNat.ofNat Nat n (instOfNatNat n))&&&(@OfNat.ofNat Nat m (instOfNatNat m)):Nat):Int))):=ZaM h (.inl rfl)
theorem Zuq {n m:Nat} (h:(@OfNat.ofNat Nat n (instOfNatNat n))<4294967296):Zci .and .u32 (no_index (@OfNat.ofNat Int n instOfNat)) .u32 (m:Int)=(True,.sc (.int .u32 (((@OfNat.ofNat Nat n (instOfNatNat n))&&&m:Nat):Int))):=ZaM h (.inl rfl)
theorem Zxz {n m:Nat} (h:(@OfNat.ofNat Nat n (instOfNatNat n))<4294967296):Zci .and .u32 (no_index (@OfNat.ofNat Int n instOfNat)) .u32 (no_index (@OfNat.ofNat Int m instOfNat))=(True,.sc (.int .u32 (((@OfNat.ofNat Nat n (instOfNatNat n))&&&(@OfNat.ofNat Nat m (instOfNatNat m)):Nat):Int))):=ZaM h (.inl rfl)
theorem Zur {n m:Nat} (h:(@OfNat.ofNat Nat n (instOfNatNat n))<18446744073709551616):Zci .and .u64 (no_index (@OfNat.ofNat Int n instOfNat)) .u64 (m:Int)=(True,.sc (.int .u64 (((@OfNat.ofNat Nat n (instOfNatNat n))&&&m:Nat):Int))):=ZaM h (.inl rfl)
theorem ZxA {n m:Nat} (h:(@OfNat.ofNat Nat n (instOfNatNat n))<18446744073709551616):Zci .and .u64 (no_index (@OfNat.ofNat Int n instOfNat)) .u64 (no_index (@OfNat.ofNat Int m instOfNat))=(True,.sc (.int .u64 (((@OfNat.ofNat Nat n (instOfNatNat n))&&&(@OfNat.ofNat Nat m (instOfNatNat m)):Nat):Int))):=ZaM h (.inl rfl)
theorem Zus {n m:Nat} (h:(@OfNat.ofNat Nat n (instOfNatNat n))<9223372036854775808):Zci .and .i64 (no_index (@OfNat.ofNat Int n instOfNat)) .i64 (m:Int)=(True,.sc (.int .i64 (((@OfNat.ofNat Nat n (instOfNatNat n))&&&m:Nat):Int))):=ZaM (Nat.lt_trans h (by decide)) (.inr h)
theorem ZxB {n m:Nat} (h:(@OfNat.ofNat Nat n (instOfNatNat n))<9223372036854775808):Zci .and .i64 (no_index (@OfNat.ofNat Int n instOfNat)) .i64 (no_index (@OfNat.ofNat Int m instOfNat))=(True,.sc (.int .i64 (((@OfNat.ofNat Nat n (instOfNatNat n))&&&(@OfNat.ofNat Nat m (instOfNatNat m)):Nat):Int))):=ZaM (Nat.lt_trans h (by decide)) (.inr h)
theorem ZEJ:IntKind.u8.bits=8:=rfl
theorem ZCD:IntKind.u16.bits=16:=rfl
theorem ZCE:IntKind.u32.bits=32:=rfl
theorem ZCF:IntKind.u64.bits=64:=rfl
theorem ZCG:IntKind.i64.bits=64:=rfl
theorem ZIb {n:Nat}:n&&&1=n % 2:=Nat.and_two_pow_sub_one_eq_mod n 1
theorem ZIc {n:Nat}:n&&&3=n % 4:=Nat.and_two_pow_sub_one_eq_mod n 2
theorem ZId {n:Nat}:n&&&7=n % 8:=Nat.and_two_pow_sub_one_eq_mod n 3
theorem ZGW {n:Nat}:n&&&15=n % 16:=Nat.and_two_pow_sub_one_eq_mod n 4
theorem ZGX {n:Nat}:n&&&31=n % 32:=Nat.and_two_pow_sub_one_eq_mod n 5
theorem ZGY {n:Nat}:n&&&63=n % 64:=Nat.and_two_pow_sub_one_eq_mod n 6
theorem ZEK {n:Nat}:n&&&127=n % 128:=Nat.and_two_pow_sub_one_eq_mod n 7
theorem ZEL {n:Nat}:n&&&255=n % 256:=Nat.and_two_pow_sub_one_eq_mod n 8
theorem ZxC {k:IntKind} {n:Int}:Zas (.sc (.int k n))=some [.sc (.int k n)]:=rfl
theorem Zut {b:Bool}:Zas (.sc (.bool b))=some [.sc (.bool b)]:=rfl
theorem Zq7 {b:ByteArray}:Zas (.sc (.string b))=some [.sc (.string b)]:=rfl
theorem ZxD {a:Option Addr} {n k:Nat}:Zas (.sc (.slice a n k))=some [.sc (.slice a n k)]:=rfl
theorem ZxE {xs:List AV}:Zas (.agg xs)=some xs:=rfl
theorem ZzC {nl:Bool} {es:Option Nat} {xs:List AV}:Zas (.sl nl es xs)=some [.sl nl es xs]:=rfl
theorem ZxF {i g lo n:Nat} {es:Option Nat}:Zas (.own i g es lo n)=some [.own i g es lo n]:=rfl
theorem ZzD {i g o:Nat}:Zas (.op i g o)=some [.op i g o]:=rfl
theorem ZzE {x:AV} {o:Nat}:Zas (.fp x o)=some [.fp x o]:=rfl
theorem Zq8 {b:List UInt8} {i:Nat} (h:i<b.length):(b.map u8).getD i .junk=u8 (b.getD i 0):=by
 simp [List.getD,List.getElem?_eq_getElem h]
theorem ZzF {b:List UInt8}:(b.map u8).length=b.length:=by simp
theorem ZaD {b:List UInt8}:AV.free.freeL (b.map u8)=true:=ZbB.2 fun x hx=>by
 obtain ⟨c,_,rfl⟩:=List.mem_map.1 hx
 rfl
theorem ZEM {b:List UInt8} {n:Nat}:(b.map u8).take n=(b.take n).map u8:=by simp
theorem ZEN {b:List UInt8} {n:Nat}:(b.map u8).drop n=(b.drop n).map u8:=by simp
theorem ZEO {b:List UInt8}:(b.map u8).map ZrN=b:=by
 rw [List.map_map]
 have:ZrN∘u8=id:=by funext c;simp [ZrN,u8]
 rw [this,List.map_id]
theorem Con.of' {f N:Nat} {fn:Func} {ins:List AV} {out:AV} {S:SCode} {rs:List RV} (hm:P.follows .mixedOrders=true) (hf:P.funcs[f]? = some fn) (hb:fn.body.isSome=true) (hN:fn.ntmps=N) (hs:Zam P N (fn.body.getD .skip)=S) (hrs:Zaf P fn=some rs)
  (hn:ins.length≤N) (hfree:AV.free.freeL ins=true) (hof:out.free=true) (h:SWp P S (fin rs out) (start N ins)):Con P f ins out:=by
 obtain ⟨code,hc⟩:=Option.isSome_iff_exists.1 hb
 subst hN
 exact Con.of hm hf hc (by rw [hc] at hs;exact hs) hrs hn hfree hof h
end
def LoopAt (P:Program) [Tabs P] (x:SCode) (Q:Ex→ASt→Prop) (st:ASt):Prop :=
 P.follows .mixedOrders=true→∀ cx,Zam P st.N cx=x→∀ (w0:World) (M:Nat→Prop) (Z:Beg) (G:Gh) (a:Act) (w:World),R P w0 M Z G st a w→∀ b kk cs,
  ∃ e a' w',(∃ ex st' G',e=Ex.out ex∧Q ex st'∧st'.N=st.N∧R P w0 M Z G' st' a' w')∧Arrives P (lone (b.at a (.code cx::.inLoop cx::kk)) cs w) b kk cs e a' w'
def ZxG (P:Program) [Tabs P] (x:SCode) (Q:Ex→ASt→Prop):Ex→ASt→Prop
 | .normal,s=>LoopAt P x Q s
 | e,s=>Q e s
theorem Zsn {P:Program} [Tabs P] {x:SCode} {Q:Ex→ASt→Prop} {st:ASt}:ZxG P x Q .normal st=LoopAt P x Q st:=rfl
theorem ZxH {P:Program} [Tabs P] {x:SCode} {Q:Ex→ASt→Prop} {st:ASt} {i:Nat}:ZxG P x Q (.exit i) st=Q (.exit i) st:=rfl
theorem ZzG {P:Program} [Tabs P] {x:SCode} {Q:Ex→ASt→Prop} {st:ASt}:ZxG P x Q .ret st=Q .ret st:=rfl
@[congr] theorem ZEP {P:Program} [Tabs P] {x:SCode} {Q:Ex→ASt→Prop} {st st':ASt} {e e':Ex} (h:e=e') (h':st=st'):ZxG P x Q e st=ZxG P x Q e' st':=by rw [h,h']
@[congr] theorem ZDZ {P:Program} [Tabs P] {x:SCode} {Q:Ex→ASt→Prop} {st st':ASt} (h':st=st'):LoopAt P x Q st=LoopAt P x Q st':=by rw [h']
theorem LoopAt.next {P:Program} [Tabs P] {Q:Ex→ASt→Prop} {st:ASt} {x:SCode} (h:SWp P x (ZxG P x Q) st):LoopAt P x Q st:=by
 intro hm cx hc w0 M Z G a w hR b kk cs
 obtain ⟨e,a₁,w₁,hq,harr⟩:=h hm cx hc w0 M Z G a w hR b (.inLoop cx::kk) cs
 obtain ⟨ex,s,G',rfl,h1,h2,h3⟩:=hq
 cases ex with
 | normal =>
  obtain ⟨e₂,a₂,w₂,⟨ex₂,s₂,G₂,q1,q2,q3,q4⟩,harr₂⟩:=h1 hm cx (by rw [h2];exact hc) w0 M Z G' a₁ w₁ h3 b kk cs
  exact ⟨e₂,a₂,w₂,⟨ex₂,s₂,G₂,q1,q2,q3.trans h2,q4⟩,.of_steps (Steps.trans harr (.one step_inLoop)) harr₂⟩
 | exit id=>exact ⟨_,a₁,w₁,⟨.exit id,s,G',rfl,h1,h2,h3⟩,.pass (x:=.inLoop cx) rfl (fun _ _=>.inl (by simp [Ex.out])) harr⟩
 | ret=>exact ⟨_,a₁,w₁,⟨.ret,s,G',rfl,h1,h2,h3⟩,.pass (x:=.inLoop cx) rfl (fun _ _=>.inl (by simp [Ex.out])) harr⟩
theorem SWp.unroll {P:Program} [Tabs P] {Q:Ex→ASt→Prop} {st:ASt} {x:SCode} (h:LoopAt P x Q st):SWp P (.loop x) Q st:=by
 intro hm code hc w0 M Z G a w hR
 cases code with
 | loop cx =>
  simp only [Zam,SCode.loop.injEq] at hc
  intro b kk cs
  obtain ⟨e,a',w',hq,harr⟩:=h hm cx hc w0 M Z G a w hR b kk cs
  exact ⟨e,a',w',hq,.of_steps (.one step_loop) harr⟩
 | region id ops draw=>simp only [Zam] at hc;(repeat' split at hc) <;> simp at hc
 | _=>simp [Zam] at hc
end Go.Proofs.YtfplkgciebjehabGreatDoor.Aw
