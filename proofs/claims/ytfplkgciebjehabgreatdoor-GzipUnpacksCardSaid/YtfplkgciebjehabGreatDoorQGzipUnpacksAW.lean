/- Parts of the proof of GzipUnpacks. -/
import Derived.Test.YtfplkgciebjehabGreatDoorQGzipUnpacksAV
namespace Go.Proofs.YtfplkgciebjehabGreatDoor.Aw
open Go
set_option linter.unusedSimpArgs false
set_option linter.unusedVariables false
section
variable {P:Program} [Tabs P] {Q:Ex→ASt→Prop} {st:ASt}
theorem SWp.condT {c:Operand} {x y:SCode} (hc:ev P st c = .sc (.bool true)) (h:SWp P x Q st):SWp P (.cond c x y) Q st:=SWp.cond hc (fun _=>h) (fun h=>Bool.noConfusion h)
theorem SWp.condF {c:Operand} {x y:SCode} (hc:ev P st c = .sc (.bool false)) (h:SWp P y Q st):SWp P (.cond c x y) Q st:=SWp.cond hc (fun h=>Bool.noConfusion h) (fun _=>h)
theorem ZtG {b:SCode}:thn P b Q .normal st=SWp P b Q st:=rfl
theorem Zx0 {b:SCode} {i:Nat}:thn P b Q (.exit i) st=Q (.exit i) st:=rfl
theorem ZzV {b:SCode}:thn P b Q .ret st=Q .ret st:=rfl
theorem ZtH {i:Nat}:inb i Q .normal st=Q .normal st:=rfl
theorem ZzW {i:Nat}:inb i Q .ret st=Q .ret st:=rfl
theorem Zx1 {i j:Nat}:inb i Q (.exit j) st=if j=i then Q .normal st else Q (.exit j) st:=rfl
theorem At.of {α:Type} {F:α→ASt} {I:α→Prop} {μ:α→Nat} {n:Nat} {s:ASt} (k:α) (hI:I k) (hμ:μ k<n) {N gc:Nat} {l:List (Nat × AV)} {h:List (Nat × Nat × AO)} (hF:F k=mk N gc l h) (hN:N=s.N) (hgc:s.gc≤gc)
  (hl:AllTm s.tm l) (hh:AllHp s.hp h):At F I μ n s:=⟨k,hI,hμ,by rw [hF];exact Zal hN hgc hl hh⟩
theorem ZvM {α:Type} {F:α→ASt} {I:α→Prop} {μ:α→Nat} {n:Nat}:lp F I μ n Q .normal st=At F I μ n st:=rfl
theorem ZzX {α:Type} {F:α→ASt} {I:α→Prop} {μ:α→Nat} {n i:Nat}:lp F I μ n Q (.exit i) st=Q (.exit i) st:=rfl
theorem ZB4 {α:Type} {F:α→ASt} {I:α→Prop} {μ:α→Nat} {n:Nat}:lp F I μ n Q .ret st=Q .ret st:=rfl
@[congr] theorem ZDa {α:Type} {F:α→ASt} {I:α→Prop} {μ:α→Nat} {n:Nat} {e e':Ex} {st':ASt} (h:e=e') (h':st=st'):lp F I μ n Q e st=lp F I μ n Q e' st':=by rw [h,h']
@[congr] theorem ZDb {α:Type} {F:α→ASt} {I:α→Prop} {μ:α→Nat} {n:Nat} {st':ASt} (h':st=st'):At F I μ n st=At F I μ n st':=by rw [h']
theorem ZzY {rs:List RV} {out:AV}:fin rs out .ret st=(Zjb st rs∧frz st.hp (Zhl st rs)=out):=rfl
theorem ZtI {rs:List RV} {out:AV}:fin rs out .normal st=(Zjb st rs∧frz st.hp (Zhl st rs)=out):=rfl
@[congr] theorem ZB5 {rs:List RV} {out:AV} {e e':Ex} {st':ASt} (h:e=e') (h':st=st'):fin rs out e st=fin rs out e' st':=by rw [h,h']
theorem ZvN:Zjb st []=True:=rfl
theorem ZtJ {r:RV} {rs:List RV}:Zjb st (r::rs)=((Zsg st r).1∧Zjb st rs):=rfl
theorem ZvO {r:RV}:Zhl st [r]=(Zsg st r).2:=rfl
theorem ZtK {r r':RV} {rs:List RV}:Zhl st (r::r'::rs) = .tup ((r::r'::rs).map fun r=>(Zsg st r).2):=rfl
theorem Zx2 {t:Nat}:Zsg st (.tmp t)=(True,st.tm t):=rfl
theorem ZvP {t:Nat} {sz:Option Nat}:Zsg st (.cell t sz)=ZeL sz (st.tm t) st.hp:=rfl
theorem ZvQ {f:Nat→AV}:AllTm f []=True:=rfl
theorem ZtL {f:Nat→AV} {t:Nat} {v:AV} {l:List (Nat × AV)}:AllTm f ((t,v)::l)=(f t=v∧AllTm f l):=rfl
theorem ZvR {f:Hp}:AllHp f []=True:=rfl
theorem ZtM {f:Hp} {t:Nat} {v:Nat × AO} {l:List (Nat × Nat × AO)}:AllHp f ((t,v)::l)=(f t=some v∧AllHp f l):=rfl
theorem ZqV {k:IntKind} {a b:Nat} (ha:a<2^k.bits) (hw:k.wrap ((a&&&b:Nat):Int)=((a&&&b:Nat):Int)) :
  k.wrap (BitVec.ofInt k.bits (a:Int)&&&BitVec.ofInt k.bits (b:Int)).toNat=((a&&&b:Nat):Int):=by
 rw [BitVec.toNat_and,BitVec.ofInt_natCast,BitVec.ofInt_natCast,BitVec.toNat_ofNat,BitVec.toNat_ofNat]
 rw [Nat.mod_eq_of_lt ha]
 have:a&&&b % 2^k.bits=a&&&b:=by
  apply Nat.eq_of_testBit_eq
  intro i
  simp only [Nat.testBit_and,Nat.testBit_mod_two_pow]
  by_cases hi:i<k.bits
  ·simp [hi]
  ·have:a.testBit i=false:=Nat.testBit_lt_two_pow (Nat.lt_of_lt_of_le ha (Nat.pow_le_pow_right (by omega) (by omega)))
   simp [this]
 rw [this,hw]
theorem Zsh {n m:Nat}:(n:Int).fdiv (2^m)=((n / 2^m:Nat):Int):=by
 rw [Int.fdiv_eq_ediv_of_nonneg _ (Int.le_of_lt (Int.pow_pos (by omega)))];push_cast;rfl
theorem Zps {n m:Nat}:(no_index (@OfNat.ofNat Int n instOfNat)).fdiv (2^m)=(((@OfNat.ofNat Nat n (instOfNatNat n)) / 2^m:Nat):Int):=Zsh
theorem Zx3 {n m:Nat}:(n:Int).fdiv (no_index (@OfNat.ofNat Int m instOfNat))=((n / (@OfNat.ofNat Nat m (instOfNatNat m)):Nat):Int):=by
 rw [Int.fdiv_eq_ediv_of_nonneg _ (by exact Int.natCast_nonneg m)];rfl
theorem Zx4 {n m:Nat}:(n:Int).tdiv (no_index (@OfNat.ofNat Int m instOfNat))=((n / (@OfNat.ofNat Nat m (instOfNatNat m)):Nat):Int):=rfl
theorem Zx5 {n m:Nat}:(n:Int).tmod (no_index (@OfNat.ofNat Int m instOfNat))=((n % (@OfNat.ofNat Nat m (instOfNatNat m)):Nat):Int):=rfl
theorem Zod {n m:Nat}:((n:Int)+(no_index (@OfNat.ofNat Int m instOfNat))).toNat=n+(@OfNat.ofNat Nat m (instOfNatNat m)):=rfl
theorem Zoe {n m:Nat}:((n:Int)+(m:Int)).toNat=n+m:=rfl
theorem ZqW {n m:Nat}:(no_index (@OfNat.ofNat Int n instOfNat))*(2:Int)^m=(((@OfNat.ofNat Nat n (instOfNatNat n))*2^m:Nat):Int):=by push_cast;rfl
theorem ZB6 {a:Bool} {b:List AV} {p:List AV→Prop}:(∃ nl cells,(a=nl∧b=cells)∧p cells)=p b:=by
 apply propext
 constructor
 ·rintro ⟨_,_,⟨rfl,rfl⟩,h⟩;exact h
 ·intro h;exact ⟨_,_,⟨rfl,rfl⟩,h⟩
theorem ZqX {n m:Nat}:(n:Int)*2^m=((n*2^m:Nat):Int):=by push_cast;rfl
theorem Zx6 {k k':IntKind} {a b:Int}:ZbG .add k a k' b=(k=k',.sc (.int k (k.wrap (a+b)))):=rfl
theorem Zx7 {k k':IntKind} {a b:Int}:ZbG .sub k a k' b=(k=k',.sc (.int k (k.wrap (a-b)))):=rfl
theorem Zx8 {k k':IntKind} {a b:Int}:ZbG .mul k a k' b=(k=k',.sc (.int k (k.wrap (a*b)))):=rfl
theorem Zx9 {k k':IntKind} {a b:Int}:ZbG .quo k a k' b=(k=k'∧b≠0,.sc (.int k (k.wrap (a.tdiv b)))):=rfl
theorem Zya {k k':IntKind} {a b:Int}:ZbG .rem k a k' b=(k=k'∧b≠0,.sc (.int k (a.tmod b))):=rfl
theorem Zyb {k k':IntKind} {a b:Int}:ZbG .shl k a k' b=(0≤b,.sc (.int k (k.wrap (a*2^(min b.toNat k.bits))))):=rfl
theorem Zyc {k k':IntKind} {a b:Int}:ZbG .shr k a k' b=(0≤b,.sc (.int k (a.fdiv (2^(min b.toNat k.bits))))):=rfl
theorem Zyd {k k':IntKind} {a b:Int}:ZbG .eql k a k' b=(k=k',boo (decide (a=b))):=rfl
theorem Zye {k k':IntKind} {a b:Int}:ZbG .neq k a k' b=(k=k',boo (!decide (a=b))):=rfl
theorem Zyf {k k':IntKind} {a b:Int}:ZbG .lss k a k' b=(k=k',boo (decide (a<b))):=rfl
theorem Zyg {k k':IntKind} {a b:Int}:ZbG .leq k a k' b=(k=k',boo (decide (a≤b))):=rfl
theorem Zyh {k k':IntKind} {a b:Int}:ZbG .gtr k a k' b=(k=k',boo (decide (b<a))):=rfl
theorem Zyi {k k':IntKind} {a b:Int}:ZbG .geq k a k' b=(k=k',boo (decide (b≤a))):=rfl
theorem Zof {k:IntKind} {n:Nat} (h:n<2^k.bits) (hs:k.signed=false∨n<2^(k.bits-1)):k.wrap (n:Int)=(n:Int):=by
 have h1:((n:Int) % (2^k.bits:Int))=n:=by
  have:(2^k.bits:Int)=((2^k.bits:Nat):Int):=by push_cast;rfl
  rw [this]
  exact Int.emod_eq_of_lt (by omega) (by exact_mod_cast h)
 simp only [IntKind.wrap,h1]
 rcases hs with hs | hs
 ·simp [hs]
 ·have:¬ ((n:Int)≥(2^(k.bits-1):Int)):=by
   have e:(2^(k.bits-1):Int)=((2^(k.bits-1):Nat):Int):=by push_cast;rfl
   rw [e];omega
  simp [this]
theorem ZaB {k:IntKind} {n m:Nat} (h:n<2^k.bits) (hs:k.signed=false∨n<2^(k.bits-1)):ZbG .and k (n:Int) k (m:Int)=(True,.sc (.int k ((n&&&m:Nat):Int))):=by
 have hle:n&&&m≤n:=Nat.and_le_left
 have hw:k.wrap ((n&&&m:Nat):Int)=((n&&&m:Nat):Int):=Zof (Nat.lt_of_le_of_lt hle h) (hs.imp id fun h=>Nat.lt_of_le_of_lt hle h)
 have:=ZqV (k:=k) (b:=m) h hw
 simp only [ZbG,this]
theorem ZaD {k:IntKind} {n m b:Nat} (hn:n<2^b) (hm:m<2^b) (hb:b≤k.bits) (hs:k.signed=false∨b≤k.bits-1):ZbG .or k (n:Int) k (m:Int)=(True,.sc (.int k ((n|||m:Nat):Int))):=by
 have hlt:n|||m<2^b:=Nat.or_lt_two_pow hn hm
 have hp:2^b≤2^k.bits:=Nat.pow_le_pow_right (by omega) hb
 have hw:k.wrap ((n|||m:Nat):Int)=((n|||m:Nat):Int):=Zof (Nat.lt_of_lt_of_le hlt hp) (hs.imp id fun h=>Nat.lt_of_lt_of_le hlt (Nat.pow_le_pow_right (by omega) h))
 have e:(BitVec.ofInt k.bits (n:Int)|||BitVec.ofInt k.bits (m:Int)).toNat=n|||m:=by
  rw [BitVec.toNat_or,BitVec.ofInt_natCast,BitVec.ofInt_natCast,BitVec.toNat_ofNat,BitVec.toNat_ofNat,Nat.mod_eq_of_lt (by omega),Nat.mod_eq_of_lt (by omega)]
 simp only [ZbG,e,hw]
theorem ZaJ {k:IntKind} {n m b:Nat} (hn:n<2^b) (hm:m<2^b) (hb:b≤k.bits) (hs:k.signed=false∨b≤k.bits-1):ZbG .xor k (n:Int) k (m:Int)=(True,.sc (.int k ((n ^^^ m:Nat):Int))):=by
 have hlt:n ^^^ m<2^b:=Nat.xor_lt_two_pow hn hm
 have hp:2^b≤2^k.bits:=Nat.pow_le_pow_right (by omega) hb
 have hw:k.wrap ((n ^^^ m:Nat):Int)=((n ^^^ m:Nat):Int):=Zof (Nat.lt_of_lt_of_le hlt hp) (hs.imp id fun h=>Nat.lt_of_lt_of_le hlt (Nat.pow_le_pow_right (by omega) h))
 have e:(BitVec.ofInt k.bits (n:Int) ^^^ BitVec.ofInt k.bits (m:Int)).toNat=n ^^^ m:=by
  rw [BitVec.toNat_xor,BitVec.ofInt_natCast,BitVec.ofInt_natCast,BitVec.toNat_ofNat,BitVec.toNat_ofNat,Nat.mod_eq_of_lt (by omega),Nat.mod_eq_of_lt (by omega)]
 simp only [ZbG,e,hw]
theorem ZB7 {n m:Nat} (h:n<256):ZbG .and .u8 (n:Int) .u8 (m:Int)=(True,.sc (.int .u8 ((n&&&m:Nat):Int))):=ZaB h (.inl rfl)
theorem ZtN {n m:Nat} (h:n<256):ZbG .and .u8 (n:Int) .u8 (no_index (@OfNat.ofNat Int m instOfNat))=(True,.sc (.int .u8 ((n&&&(@OfNat.ofNat Nat m (instOfNatNat m)):Nat):Int))):=ZaB h (.inl rfl)
theorem ZzZ {n m:Nat} (h:n<9223372036854775808):ZbG .and .i64 (n:Int) .i64 (m:Int)=(True,.sc (.int .i64 ((n&&&m:Nat):Int))):=ZaB (Nat.lt_trans h (by decide)) (.inr h)
theorem ZqY {n m:Nat} (h:n<9223372036854775808):ZbG .and .i64 (n:Int) .i64 (no_index (@OfNat.ofNat Int m instOfNat))=(True,.sc (.int .i64 ((n&&&(@OfNat.ofNat Nat m (instOfNatNat m)):Nat):Int))):=ZaB (Nat.lt_trans h (by decide)) (.inr h)
theorem Zz0 {n m:Nat} (h:n<4294967296):ZbG .and .u32 (n:Int) .u32 (m:Int)=(True,.sc (.int .u32 ((n&&&m:Nat):Int))):=ZaB h (.inl rfl)
theorem ZqZ {n m:Nat} (h:n<4294967296):ZbG .and .u32 (n:Int) .u32 (no_index (@OfNat.ofNat Int m instOfNat))=(True,.sc (.int .u32 ((n&&&(@OfNat.ofNat Nat m (instOfNatNat m)):Nat):Int))):=ZaB h (.inl rfl)
theorem Zz1 {n m:Nat} (h:n<18446744073709551616):ZbG .and .u64 (n:Int) .u64 (m:Int)=(True,.sc (.int .u64 ((n&&&m:Nat):Int))):=ZaB h (.inl rfl)
theorem Zq0 {n m:Nat} (h:n<18446744073709551616):ZbG .and .u64 (n:Int) .u64 (no_index (@OfNat.ofNat Int m instOfNat))=(True,.sc (.int .u64 ((n&&&(@OfNat.ofNat Nat m (instOfNatNat m)):Nat):Int))):=ZaB h (.inl rfl)
theorem Zz2 {n m:Nat} (h:n<256) (h':m<256):ZbG .or .u8 (n:Int) .u8 (m:Int)=(True,.sc (.int .u8 ((n|||m:Nat):Int))):=ZaD (b:=8) h h' (by decide) (.inl rfl)
theorem ZB8 {n m:Nat} (h:n<4294967296) (h':m<4294967296):ZbG .or .u32 (n:Int) .u32 (m:Int)=(True,.sc (.int .u32 ((n|||m:Nat):Int))):=ZaD (b:=32) h h' (by decide) (.inl rfl)
theorem ZB9 {n m:Nat} (h:n<18446744073709551616) (h':m<18446744073709551616):ZbG .or .u64 (n:Int) .u64 (m:Int)=(True,.sc (.int .u64 ((n|||m:Nat):Int))):=ZaD (b:=64) h h' (by decide) (.inl rfl)
theorem ZCa {n m:Nat} (h:n<9223372036854775808) (h':m<9223372036854775808):ZbG .or .i64 (n:Int) .i64 (m:Int)=(True,.sc (.int .i64 ((n|||m:Nat):Int))):=ZaD (b:=63) h h' (by decide) (.inr (by decide))
theorem ZCb {n m:Nat} (h:n<256) (h':m<256):ZbG .xor .u8 (n:Int) .u8 (m:Int)=(True,.sc (.int .u8 ((n ^^^ m:Nat):Int))):=ZaJ (b:=8) h h' (by decide) (.inl rfl)
theorem Zz3 {n m:Nat} (h:n<4294967296) (h':m<4294967296):ZbG .xor .u32 (n:Int) .u32 (m:Int)=(True,.sc (.int .u32 ((n ^^^ m:Nat):Int))):=ZaJ (b:=32) h h' (by decide) (.inl rfl)
theorem Zz4 {n m:Nat} (h:n<18446744073709551616) (h':m<18446744073709551616):ZbG .xor .u64 (n:Int) .u64 (m:Int)=(True,.sc (.int .u64 ((n ^^^ m:Nat):Int))):=ZaJ (b:=64) h h' (by decide) (.inl rfl)
theorem ZtO {a b m:Nat} (h:a+b<9223372036854775808) (h':m<9223372036854775808):ZbG .or .i64 ((a:Int)+(b:Int)) .i64 (m:Int)=(True,.sc (.int .i64 ((a+b|||m:Nat):Int))):=ZaD (b:=63) h h' (by decide) (.inr (by decide))
theorem ZmV {a b m:Nat} (h:a+b<9223372036854775808) (h':(@OfNat.ofNat Nat m (instOfNatNat m))<9223372036854775808):ZbG .or .i64 ((a:Int)+(b:Int)) .i64 (no_index (@OfNat.ofNat Int m instOfNat))=(True,.sc (.int .i64 ((a+b|||(@OfNat.ofNat Nat m (instOfNatNat m)):Nat):Int))):=ZaD (b:=63) h h' (by decide) (.inr (by decide))
theorem ZvS {n m:Nat} (h:n<256) (h':(@OfNat.ofNat Nat m (instOfNatNat m))<256):ZbG .or .u8 (n:Int) .u8 (no_index (@OfNat.ofNat Int m instOfNat))=(True,.sc (.int .u8 ((n|||(@OfNat.ofNat Nat m (instOfNatNat m)):Nat):Int))):=ZaD (b:=8) h h' (by decide) (.inl rfl)
theorem ZvT {n m:Nat} (h:(@OfNat.ofNat Nat n (instOfNatNat n))<256) (h':m<256):ZbG .or .u8 (no_index (@OfNat.ofNat Int n instOfNat)) .u8 (m:Int)=(True,.sc (.int .u8 (((@OfNat.ofNat Nat n (instOfNatNat n))|||m:Nat):Int))):=ZaD (b:=8) h h' (by decide) (.inl rfl)
theorem Zyj {n m:Nat} (h:(@OfNat.ofNat Nat n (instOfNatNat n))<256) (h':(@OfNat.ofNat Nat m (instOfNatNat m))<256):ZbG .or .u8 (no_index (@OfNat.ofNat Int n instOfNat)) .u8 (no_index (@OfNat.ofNat Int m instOfNat))=(True,.sc (.int .u8 (((@OfNat.ofNat Nat n (instOfNatNat n))|||(@OfNat.ofNat Nat m (instOfNatNat m)):Nat):Int))):=ZaD (b:=8) h h' (by decide) (.inl rfl)
theorem ZtP {n m:Nat} (h:n<4294967296) (h':(@OfNat.ofNat Nat m (instOfNatNat m))<4294967296):ZbG .or .u32 (n:Int) .u32 (no_index (@OfNat.ofNat Int m instOfNat))=(True,.sc (.int .u32 ((n|||(@OfNat.ofNat Nat m (instOfNatNat m)):Nat):Int))):=ZaD (b:=32) h h' (by decide) (.inl rfl)
theorem ZtQ {n m:Nat} (h:(@OfNat.ofNat Nat n (instOfNatNat n))<4294967296) (h':m<4294967296):ZbG .or .u32 (no_index (@OfNat.ofNat Int n instOfNat)) .u32 (m:Int)=(True,.sc (.int .u32 (((@OfNat.ofNat Nat n (instOfNatNat n))|||m:Nat):Int))):=ZaD (b:=32) h h' (by decide) (.inl rfl)
theorem ZvU {n m:Nat} (h:(@OfNat.ofNat Nat n (instOfNatNat n))<4294967296) (h':(@OfNat.ofNat Nat m (instOfNatNat m))<4294967296):ZbG .or .u32 (no_index (@OfNat.ofNat Int n instOfNat)) .u32 (no_index (@OfNat.ofNat Int m instOfNat))=(True,.sc (.int .u32 (((@OfNat.ofNat Nat n (instOfNatNat n))|||(@OfNat.ofNat Nat m (instOfNatNat m)):Nat):Int))):=ZaD (b:=32) h h' (by decide) (.inl rfl)
theorem ZtR {n m:Nat} (h:n<18446744073709551616) (h':(@OfNat.ofNat Nat m (instOfNatNat m))<18446744073709551616):ZbG .or .u64 (n:Int) .u64 (no_index (@OfNat.ofNat Int m instOfNat))=(True,.sc (.int .u64 ((n|||(@OfNat.ofNat Nat m (instOfNatNat m)):Nat):Int))):=ZaD (b:=64) h h' (by decide) (.inl rfl)
theorem ZtS {n m:Nat} (h:(@OfNat.ofNat Nat n (instOfNatNat n))<18446744073709551616) (h':m<18446744073709551616):ZbG .or .u64 (no_index (@OfNat.ofNat Int n instOfNat)) .u64 (m:Int)=(True,.sc (.int .u64 (((@OfNat.ofNat Nat n (instOfNatNat n))|||m:Nat):Int))):=ZaD (b:=64) h h' (by decide) (.inl rfl)
theorem ZvV {n m:Nat} (h:(@OfNat.ofNat Nat n (instOfNatNat n))<18446744073709551616) (h':(@OfNat.ofNat Nat m (instOfNatNat m))<18446744073709551616):ZbG .or .u64 (no_index (@OfNat.ofNat Int n instOfNat)) .u64 (no_index (@OfNat.ofNat Int m instOfNat))=(True,.sc (.int .u64 (((@OfNat.ofNat Nat n (instOfNatNat n))|||(@OfNat.ofNat Nat m (instOfNatNat m)):Nat):Int))):=ZaD (b:=64) h h' (by decide) (.inl rfl)
theorem ZtT {n m:Nat} (h:n<9223372036854775808) (h':(@OfNat.ofNat Nat m (instOfNatNat m))<9223372036854775808):ZbG .or .i64 (n:Int) .i64 (no_index (@OfNat.ofNat Int m instOfNat))=(True,.sc (.int .i64 ((n|||(@OfNat.ofNat Nat m (instOfNatNat m)):Nat):Int))):=ZaD (b:=63) h h' (by decide) (.inr (by decide))
theorem ZtU {n m:Nat} (h:(@OfNat.ofNat Nat n (instOfNatNat n))<9223372036854775808) (h':m<9223372036854775808):ZbG .or .i64 (no_index (@OfNat.ofNat Int n instOfNat)) .i64 (m:Int)=(True,.sc (.int .i64 (((@OfNat.ofNat Nat n (instOfNatNat n))|||m:Nat):Int))):=ZaD (b:=63) h h' (by decide) (.inr (by decide))
theorem ZvW {n m:Nat} (h:(@OfNat.ofNat Nat n (instOfNatNat n))<9223372036854775808) (h':(@OfNat.ofNat Nat m (instOfNatNat m))<9223372036854775808):ZbG .or .i64 (no_index (@OfNat.ofNat Int n instOfNat)) .i64 (no_index (@OfNat.ofNat Int m instOfNat))=(True,.sc (.int .i64 (((@OfNat.ofNat Nat n (instOfNatNat n))|||(@OfNat.ofNat Nat m (instOfNatNat m)):Nat):Int))):=ZaD (b:=63) h h' (by decide) (.inr (by decide))
theorem ZtV {n m:Nat} (h:n<256) (h':(@OfNat.ofNat Nat m (instOfNatNat m))<256):ZbG .xor .u8 (n:Int) .u8 (no_index (@OfNat.ofNat Int m instOfNat))=(True,.sc (.int .u8 ((n ^^^ (@OfNat.ofNat Nat m (instOfNatNat m)):Nat):Int))):=ZaJ (b:=8) h h' (by decide) (.inl rfl)
theorem ZtW {n m:Nat} (h:(@OfNat.ofNat Nat n (instOfNatNat n))<256) (h':m<256):ZbG .xor .u8 (no_index (@OfNat.ofNat Int n instOfNat)) .u8 (m:Int)=(True,.sc (.int .u8 (((@OfNat.ofNat Nat n (instOfNatNat n)) ^^^ m:Nat):Int))):=ZaJ (b:=8) h h' (by decide) (.inl rfl)
theorem ZvX {n m:Nat} (h:(@OfNat.ofNat Nat n (instOfNatNat n))<256) (h':(@OfNat.ofNat Nat m (instOfNatNat m))<256):ZbG .xor .u8 (no_index (@OfNat.ofNat Int n instOfNat)) .u8 (no_index (@OfNat.ofNat Int m instOfNat))=(True,.sc (.int .u8 (((@OfNat.ofNat Nat n (instOfNatNat n)) ^^^ (@OfNat.ofNat Nat m (instOfNatNat m)):Nat):Int))):=ZaJ (b:=8) h h' (by decide) (.inl rfl)
theorem Zq1 {n m:Nat} (h:n<4294967296) (h':(@OfNat.ofNat Nat m (instOfNatNat m))<4294967296):ZbG .xor .u32 (n:Int) .u32 (no_index (@OfNat.ofNat Int m instOfNat))=(True,.sc (.int .u32 ((n ^^^ (@OfNat.ofNat Nat m (instOfNatNat m)):Nat):Int))):=ZaJ (b:=32) h h' (by decide) (.inl rfl)
theorem Zq2 {n m:Nat} (h:(@OfNat.ofNat Nat n (instOfNatNat n))<4294967296) (h':m<4294967296):ZbG .xor .u32 (no_index (@OfNat.ofNat Int n instOfNat)) .u32 (m:Int)=(True,.sc (.int .u32 (((@OfNat.ofNat Nat n (instOfNatNat n)) ^^^ m:Nat):Int))):=ZaJ (b:=32) h h' (by decide) (.inl rfl)
theorem ZtX {n m:Nat} (h:(@OfNat.ofNat Nat n (instOfNatNat n))<4294967296) (h':(@OfNat.ofNat Nat m (instOfNatNat m))<4294967296):ZbG .xor .u32 (no_index (@OfNat.ofNat Int n instOfNat)) .u32 (no_index (@OfNat.ofNat Int m instOfNat))=(True,.sc (.int .u32 (((@OfNat.ofNat Nat n (instOfNatNat n)) ^^^ (@OfNat.ofNat Nat m (instOfNatNat m)):Nat):Int))):=ZaJ (b:=32) h h' (by decide) (.inl rfl)
theorem Zq3 {n m:Nat} (h:n<18446744073709551616) (h':(@OfNat.ofNat Nat m (instOfNatNat m))<18446744073709551616):ZbG .xor .u64 (n:Int) .u64 (no_index (@OfNat.ofNat Int m instOfNat))=(True,.sc (.int .u64 ((n ^^^ (@OfNat.ofNat Nat m (instOfNatNat m)):Nat):Int))):=ZaJ (b:=64) h h' (by decide) (.inl rfl)
theorem Zq4 {n m:Nat} (h:(@OfNat.ofNat Nat n (instOfNatNat n))<18446744073709551616) (h':m<18446744073709551616):ZbG .xor .u64 (no_index (@OfNat.ofNat Int n instOfNat)) .u64 (m:Int)=(True,.sc (.int .u64 (((@OfNat.ofNat Nat n (instOfNatNat n)) ^^^ m:Nat):Int))):=ZaJ (b:=64) h h' (by decide) (.inl rfl)
theorem ZtY {n m:Nat} (h:(@OfNat.ofNat Nat n (instOfNatNat n))<18446744073709551616) (h':(@OfNat.ofNat Nat m (instOfNatNat m))<18446744073709551616):ZbG .xor .u64 (no_index (@OfNat.ofNat Int n instOfNat)) .u64 (no_index (@OfNat.ofNat Int m instOfNat))=(True,.sc (.int .u64 (((@OfNat.ofNat Nat n (instOfNatNat n)) ^^^ (@OfNat.ofNat Nat m (instOfNatNat m)):Nat):Int))):=ZaJ (b:=64) h h' (by decide) (.inl rfl)
theorem Zq5 {n m:Nat} (h:n<9223372036854775808) (h':(@OfNat.ofNat Nat m (instOfNatNat m))<9223372036854775808):ZbG .xor .i64 (n:Int) .i64 (no_index (@OfNat.ofNat Int m instOfNat))=(True,.sc (.int .i64 ((n ^^^ (@OfNat.ofNat Nat m (instOfNatNat m)):Nat):Int))):=ZaJ (b:=63) h h' (by decide) (.inr (by decide))
theorem Zq6 {n m:Nat} (h:(@OfNat.ofNat Nat n (instOfNatNat n))<9223372036854775808) (h':m<9223372036854775808):ZbG .xor .i64 (no_index (@OfNat.ofNat Int n instOfNat)) .i64 (m:Int)=(True,.sc (.int .i64 (((@OfNat.ofNat Nat n (instOfNatNat n)) ^^^ m:Nat):Int))):=ZaJ (b:=63) h h' (by decide) (.inr (by decide))
theorem ZtZ {n m:Nat} (h:(@OfNat.ofNat Nat n (instOfNatNat n))<9223372036854775808) (h':(@OfNat.ofNat Nat m (instOfNatNat m))<9223372036854775808):ZbG .xor .i64 (no_index (@OfNat.ofNat Int n instOfNat)) .i64 (no_index (@OfNat.ofNat Int m instOfNat))=(True,.sc (.int .i64 (((@OfNat.ofNat Nat n (instOfNatNat n)) ^^^ (@OfNat.ofNat Nat m (instOfNatNat m)):Nat):Int))):=ZaJ (b:=63) h h' (by decide) (.inr (by decide))
theorem Zt0 {n m:Nat} (h:(@OfNat.ofNat Nat n (instOfNatNat n))<256):ZbG .and .u8 (no_index (@OfNat.ofNat Int n instOfNat)) .u8 (m:Int)=(True,.sc (.int .u8 (((@OfNat.ofNat Nat n (instOfNatNat n))&&&m:Nat):Int))):=ZaB h (.inl rfl)
theorem ZvY {n m:Nat} (h:(@OfNat.ofNat Nat n (instOfNatNat n))<256):ZbG .and .u8 (no_index (@OfNat.ofNat Int n instOfNat)) .u8 (no_index (@OfNat.ofNat Int m instOfNat))=(True,.sc (.int .u8 (((@OfNat.ofNat Nat n (instOfNatNat n))&&&(@OfNat.ofNat Nat m (instOfNatNat m)):Nat):Int))):=ZaB h (.inl rfl)
theorem Zq7 {n m:Nat} (h:(@OfNat.ofNat Nat n (instOfNatNat n))<4294967296):ZbG .and .u32 (no_index (@OfNat.ofNat Int n instOfNat)) .u32 (m:Int)=(True,.sc (.int .u32 (((@OfNat.ofNat Nat n (instOfNatNat n))&&&m:Nat):Int))):=ZaB h (.inl rfl)
theorem Zt1 {n m:Nat} (h:(@OfNat.ofNat Nat n (instOfNatNat n))<4294967296):ZbG .and .u32 (no_index (@OfNat.ofNat Int n instOfNat)) .u32 (no_index (@OfNat.ofNat Int m instOfNat))=(True,.sc (.int .u32 (((@OfNat.ofNat Nat n (instOfNatNat n))&&&(@OfNat.ofNat Nat m (instOfNatNat m)):Nat):Int))):=ZaB h (.inl rfl)
theorem Zq8 {n m:Nat} (h:(@OfNat.ofNat Nat n (instOfNatNat n))<18446744073709551616):ZbG .and .u64 (no_index (@OfNat.ofNat Int n instOfNat)) .u64 (m:Int)=(True,.sc (.int .u64 (((@OfNat.ofNat Nat n (instOfNatNat n))&&&m:Nat):Int))):=ZaB h (.inl rfl)
theorem Zt2 {n m:Nat} (h:(@OfNat.ofNat Nat n (instOfNatNat n))<18446744073709551616):ZbG .and .u64 (no_index (@OfNat.ofNat Int n instOfNat)) .u64 (no_index (@OfNat.ofNat Int m instOfNat))=(True,.sc (.int .u64 (((@OfNat.ofNat Nat n (instOfNatNat n))&&&(@OfNat.ofNat Nat m (instOfNatNat m)):Nat):Int))):=ZaB h (.inl rfl)
theorem Zq9 {n m:Nat} (h:(@OfNat.ofNat Nat n (instOfNatNat n))<9223372036854775808):ZbG .and .i64 (no_index (@OfNat.ofNat Int n instOfNat)) .i64 (m:Int)=(True,.sc (.int .i64 (((@OfNat.ofNat Nat n (instOfNatNat n))&&&m:Nat):Int))):=ZaB (Nat.lt_trans h (by decide)) (.inr h)
theorem Zt3 {n m:Nat} (h:(@OfNat.ofNat Nat n (instOfNatNat n))<9223372036854775808):ZbG .and .i64 (no_index (@OfNat.ofNat Int n instOfNat)) .i64 (no_index (@OfNat.ofNat Int m instOfNat))=(True,.sc (.int .i64 (((@OfNat.ofNat Nat n (instOfNatNat n))&&&(@OfNat.ofNat Nat m (instOfNatNat m)):Nat):Int))):=ZaB (Nat.lt_trans h (by decide)) (.inr h)
theorem Zz5:IntKind.u8.bits=8:=rfl
theorem Zyk:IntKind.u16.bits=16:=rfl
theorem Zyl:IntKind.u32.bits=32:=rfl
theorem Zym:IntKind.u64.bits=64:=rfl
theorem Zyn:IntKind.i64.bits=64:=rfl
theorem ZDi {n:Nat}:n&&&1=n % 2:=Nat.and_two_pow_sub_one_eq_mod n 1
theorem ZDj {n:Nat}:n&&&3=n % 4:=Nat.and_two_pow_sub_one_eq_mod n 2
theorem ZDk {n:Nat}:n&&&7=n % 8:=Nat.and_two_pow_sub_one_eq_mod n 3
theorem ZCc {n:Nat}:n&&&15=n % 16:=Nat.and_two_pow_sub_one_eq_mod n 4
theorem ZCd {n:Nat}:n&&&31=n % 32:=Nat.and_two_pow_sub_one_eq_mod n 5
theorem ZCe {n:Nat}:n&&&63=n % 64:=Nat.and_two_pow_sub_one_eq_mod n 6
theorem Zz6 {n:Nat}:n&&&127=n % 128:=Nat.and_two_pow_sub_one_eq_mod n 7
theorem Zz7 {n:Nat}:n&&&255=n % 256:=Nat.and_two_pow_sub_one_eq_mod n 8
theorem Zt4 {k:IntKind} {n:Int}:Zat (.sc (.int k n))=some [.sc (.int k n)]:=rfl
theorem Zra {b:Bool}:Zat (.sc (.bool b))=some [.sc (.bool b)]:=rfl
theorem Zog {b:ByteArray}:Zat (.sc (.string b))=some [.sc (.string b)]:=rfl
theorem Zt5 {a:Option Addr} {n k:Nat}:Zat (.sc (.slice a n k))=some [.sc (.slice a n k)]:=rfl
theorem Zt6 {xs:List AV}:Zat (.agg xs)=some xs:=rfl
theorem ZvZ {nl:Bool} {es:Option Nat} {xs:List AV}:Zat (.sl nl es xs)=some [.sl nl es xs]:=rfl
theorem Zt7 {i g lo n:Nat} {es:Option Nat}:Zat (.own i g es lo n)=some [.own i g es lo n]:=rfl
theorem Zv0 {i g o:Nat}:Zat (.op i g o)=some [.op i g o]:=rfl
theorem Zv1 {x:AV} {o:Nat}:Zat (.fp x o)=some [.fp x o]:=rfl
theorem Zz8 {b:List UInt8} {i:Nat} (h:i<b.length):(b.map u8).getD i .junk=u8 (b.getD i 0):=by
 simp [List.getD,List.getElem?_eq_getElem h]
theorem Zv2 {b:List UInt8}:(b.map u8).length=b.length:=by simp
theorem Zag {b:List UInt8}:AV.free.freeL (b.map u8)=true:=ZcZ.2 fun x hx=>by
 obtain ⟨c,_,rfl⟩:=List.mem_map.1 hx
 rfl
theorem Zz9 {b:List UInt8} {n:Nat}:(b.map u8).take n=(b.take n).map u8:=by simp
theorem ZAa {b:List UInt8} {n:Nat}:(b.map u8).drop n=(b.drop n).map u8:=by simp
theorem Zv3 {b:List UInt8}:(b.map u8).map Zqk=b:=by
 rw [List.map_map]
 have:Zqk∘u8=id:=by funext c;simp [Zqk,u8]
 rw [this,List.map_id]
theorem Con.of' {f N:Nat} {fn:Func} {ins:List AV} {out:AV} {S:SCode} {rs:List RV} (hm:P.follows .mixedOrders=true) (hf:P.funcs[f]? = some fn) (hb:fn.body.isSome=true) (hN:fn.ntmps=N) (hs:Zam P N (fn.body.getD .skip)=S) (hrs:Zaf P fn=some rs)
  (hn:ins.length≤N) (hfree:AV.free.freeL ins=true) (hof:out.free=true) (h:SWp P S (fin rs out) (start N ins)):Con P f ins out:=by
 obtain ⟨code,hc⟩:=Option.isSome_iff_exists.1 hb
 subst hN
 exact Con.of hm hf hc (by rw [hc] at hs;exact hs) hrs hn hfree hof h
end
def LoopAt (P:Program) [Tabs P] (x:SCode) (Q:Ex→ASt→Prop) (st:ASt):Prop :=
 P.follows .mixedOrders=true→∀ cx,Zam P st.N cx=x→∀ (w0:World) (M:Nat→Prop) (Z:Beg) (G:Gh) (a:Act) (w:World),R P w0 M Z G st a w→∀ b kk cs,
  ∃ e a' w',(∃ ex st' G',e=Ex.out ex∧Q ex st'∧st'.N=st.N∧R P w0 M Z G' st' a' w')∧Arrives P (lone (b.at a (.code cx::.inLoop cx::kk)) cs w) b kk cs e a' w'
def Zt8 (P:Program) [Tabs P] (x:SCode) (Q:Ex→ASt→Prop):Ex→ASt→Prop
 | .normal,s=>LoopAt P x Q s
 | e,s=>Q e s
theorem Zpt {P:Program} [Tabs P] {x:SCode} {Q:Ex→ASt→Prop} {st:ASt}:Zt8 P x Q .normal st=LoopAt P x Q st:=rfl
theorem Zt9 {P:Program} [Tabs P] {x:SCode} {Q:Ex→ASt→Prop} {st:ASt} {i:Nat}:Zt8 P x Q (.exit i) st=Q (.exit i) st:=rfl
theorem Zv4 {P:Program} [Tabs P] {x:SCode} {Q:Ex→ASt→Prop} {st:ASt}:Zt8 P x Q .ret st=Q .ret st:=rfl
@[congr] theorem ZAb {P:Program} [Tabs P] {x:SCode} {Q:Ex→ASt→Prop} {st st':ASt} {e e':Ex} (h:e=e') (h':st=st'):Zt8 P x Q e st=Zt8 P x Q e' st':=by rw [h,h']
@[congr] theorem Zzt {P:Program} [Tabs P] {x:SCode} {Q:Ex→ASt→Prop} {st st':ASt} (h':st=st'):LoopAt P x Q st=LoopAt P x Q st':=by rw [h']
theorem LoopAt.next {P:Program} [Tabs P] {Q:Ex→ASt→Prop} {st:ASt} {x:SCode} (h:SWp P x (Zt8 P x Q) st):LoopAt P x Q st:=by
 intro hm cx hc w0 M Z G a w hR b kk cs
 obtain ⟨e,a₁,w₁,hq,harr⟩:=h hm cx hc w0 M Z G a w hR b (.inLoop cx::kk) cs
 obtain ⟨ex,s,G',rfl,h1,h2,h3⟩:=hq
 cases ex with
 | normal =>
  obtain ⟨e₂,a₂,w₂,⟨ex₂,s₂,G₂,q1,q2,q3,q4⟩,harr₂⟩:=h1 hm cx (by rw [h2];exact hc) w0 M Z G' a₁ w₁ h3 b kk cs
  exact ⟨e₂,a₂,w₂,⟨ex₂,s₂,G₂,q1,q2,q3.trans h2,q4⟩,.of_steps (Steps.trans harr (.one step_inLoop)) harr₂⟩
 | exit id=>exact ⟨_,a₁,w₁,⟨.exit id,s,G',rfl,h1,h2,h3⟩,.pass (x:=.inLoop cx) rfl (fun _ _=>.inl (by simp [Ex.out])) harr⟩
 | ret=>exact ⟨_,a₁,w₁,⟨.ret,s,G',rfl,h1,h2,h3⟩,.pass (x:=.inLoop cx) rfl (fun _ _=>.inl (by simp [Ex.out])) harr⟩
theorem SWp.unroll {P:Program} [Tabs P] {Q:Ex→ASt→Prop} {st:ASt} {x:SCode} (h:LoopAt P x Q st):SWp P (.loop x) Q st:=by
 intro hm code hc w0 M Z G a w hR
 cases code with
 | loop cx =>
  simp only [Zam,SCode.loop.injEq] at hc
  intro b kk cs
  obtain ⟨e,a',w',hq,harr⟩:=h hm cx hc w0 M Z G a w hR b kk cs
  exact ⟨e,a',w',hq,.of_steps (.one step_loop) harr⟩
 | region id ops draw=>simp only [Zam] at hc;(repeat' split at hc) <;> simp at hc
 | _=>simp [Zam] at hc
end Go.Proofs.YtfplkgciebjehabGreatDoor.Aw
