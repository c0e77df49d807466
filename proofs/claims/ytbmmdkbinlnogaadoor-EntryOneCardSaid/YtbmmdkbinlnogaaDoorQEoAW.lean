/- Parts of the proofs of Eo. -/
import Derived.Test.YtbmmdkbinlnogaaDoorQEoAV
import Derived.Lib.Hide
namespace Go.Proofs.YtbmmdkbinlnogaaDoor.Aw
open Go
set_option linter.unusedSimpArgs false
set_option linter.unusedVariables false
abbrev T (t : Nat) : Operand := .tmp t
abbrev C (n : Int) : Operand := .const (.int .i64 n)
def goP (p : Prop × AV) (d : Option Nat) (st : ASt) (K : ASt → Prop) : Prop := p.1 ∧ K (st.put d p.2)
def goH (p : Prop × AV × Hp × Nat) (d : Option Nat) (st : ASt) (K : ASt → Prop) : Prop := p.1 ∧ K (ASt.put ⟨st.tm, p.2.2.1, p.2.2.2, st.N⟩ d p.2.1)
def goC (P : Program) [Tabs P] (h : Bool) (f : Nat) (ins : List AV) (d : Option Nat) (st : ASt) (K : ASt → Prop) : Prop := (∃ out, CallOk P f ins st.hp out ∧ K (st.put d out)) ∨ (h = true ∧ ∃ r hp' c', HCallOk P f ins st.hp st.gc r hp' c' ∧ K (ASt.put ⟨st.tm, hp', c', st.N⟩ d r))
def goB (g : AV) (want : Bool) (A B : Prop) : Prop := ∃ b, gIs g want b ∧ (b = want → A) ∧ (b = !want → B)
section
variable {P : Program} [Tabs P] {st st' : ASt} {K : ASt → Prop} {d : Option Nat}
@[congr] theorem goP_congr {p p' : Prop × AV} (h : p = p') (h' : st = st') : goP p d st K = goP p' d st' K := by rw [h, h']
@[congr] theorem goH_congr {p p' : Prop × AV × Hp × Nat} (h : p = p') (h' : st = st') : goH p d st K = goH p' d st' K := by rw [h, h']
@[congr] theorem goC_congr {t : Bool} {f : Nat} {p p' : List AV} (h : p = p') (h' : st = st') : goC P t f p d st K = goC P t f p' d st' K := by rw [h, h']
@[congr] theorem AOps_congr {sl : List SOper} (h' : st = st') : AOps P sl K st = AOps P sl K st' := by rw [h']
@[congr] theorem AStep_congr {s : SOp} (h' : st = st') : AStep P s d st K = AStep P s d st' K := by rw [h']
@[congr] theorem SWp_congr [Lim] {c : SCode} {Q : Ex → ASt → Prop} (h' : st = st') : SWp P c Q st = SWp P c Q st' := by rw [h']
@[congr] theorem thn_congr [Lim] {b : SCode} {Q : Ex → ASt → Prop} {e e' : Ex} (h : e = e') (h' : st = st') : thn P b Q e st = thn P b Q e' st' := by rw [h, h']
@[congr] theorem inb_congr {i : Nat} {Q : Ex → ASt → Prop} {e e' : Ex} (h : e = e') (h' : st = st') : inb i Q e st = inb i Q e' st' := by rw [h, h']
@[congr] theorem goB_congr {g g' : AV} {want : Bool} {A B : Prop} (h : g = g') : goB g want A B = goB g' want A B := by rw [h]
theorem goP_mk {p : Prop} {v : AV} : goP (p, v) d st K = (p ∧ K (st.put d v)) := rfl
theorem goH_mk {p : Prop} {v : AV} {hp : Hp} {gc : Nat} : goH (p, v, hp, gc) d st K = (p ∧ K (ASt.put ⟨st.tm, hp, gc, st.N⟩ d v)) := rfl
theorem put_some {tm : Nat → AV} {hp : Hp} {gc N t : Nat} {v : AV} : ASt.put ⟨tm, hp, gc, N⟩ (some t) v = ⟨upd tm t v, hp, gc, N⟩ := rfl
theorem put_none {v : AV} : ASt.put st none v = st := rfl
theorem ev_tmp {tm : Nat → AV} {hp : Hp} {gc N t : Nat} : ev P ⟨tm, hp, gc, N⟩ (.tmp t) = tm t := (rfl)
theorem ev_global {g : Nat} {xs : List AV} (h : Tabs.tab P g = some xs) : ev P st (.global g) = .fp (.agg xs) 0 := by simp only [ev, h]
theorem ev_const {v : Value} : ev P st (.const v) = .sc v := rfl
theorem ev_func {f : Nat} : ev P st (.func f) = .sc (.func (.func f) #[] #[]) := rfl
theorem upd_at {f : Nat → AV} {t s : Nat} {v : AV} : upd f t v s = if s = t then v else f s := (rfl)
theorem updH_at {f : Hp} {t s : Nat} {v : Option (Nat × AO)} : updH f t v s = if s = t then v else f s := rfl
theorem look_nil {t : Nat} : look [] t = .junk := (rfl)
theorem look_cons {s t : Nat} {v : AV} {r : List (Nat × AV)} : look ((s, v) :: r) t = if t = s then v else look r t := (rfl)
theorem lookH_nil {t : Nat} : lookH [] t = none := rfl
theorem lookH_cons {s t : Nat} {v : Nat × AO} {r : List (Nat × Nat × AO)} : lookH ((s, v) :: r) t = if t = s then some v else lookH r t := rfl
theorem mk_eq {N gc : Nat} {l : List (Nat × AV)} {h : List (Nat × Nat × AO)} : mk N gc l h = ⟨look l, lookH h, gc, N⟩ := rfl
theorem start_eq {N : Nat} {ins : List AV} : start N ins = ⟨fun t => ins.getD t .junk, fun _ => none, 0, N⟩ := rfl
theorem AOps_nil : AOps P [] K st = K st := rfl
theorem AOps_none {s : SOp} {r : List SOper} : AOps P (⟨d, s, none⟩ :: r) K st = AStep P s d st (AOps P r K) := rfl
theorem AOps_some {s : SOp} {g : Nat} {want : Bool} {r : List SOper} : AOps P (⟨d, s, some (g, want)⟩ :: r) K st = goB (st.tm g) want (AStep P s d st (AOps P r K)) (AOps P r K (st.put d (.sc undef))) := rfl
theorem goB_b {b want : Bool} {A B : Prop} : goB (.sc (.bool b)) want A B = ((b = want → A) ∧ (b = !want → B)) := by
  apply propext
  constructor
  · rintro ⟨c, hc, h1, h2⟩
    rcases hc with hc | ⟨hc, _⟩
    · simp only [AV.sc.injEq, Value.bool.injEq] at hc
      subst hc; exact ⟨h1, h2⟩
    · simp [undef] at hc
  · rintro ⟨h1, h2⟩; exact ⟨b, .inl rfl, h1, h2⟩
theorem goB_true {A B : Prop} : goB (.sc (.bool true)) true A B = A := by simp [goB_b]
theorem goB_false {A B : Prop} : goB (.sc (.bool false)) true A B = B := by simp [goB_b]
theorem goB_true' {A B : Prop} : goB (.sc (.bool true)) false A B = B := by simp [goB_b]
theorem goB_false' {A B : Prop} : goB (.sc (.bool false)) false A B = A := by simp [goB_b]
theorem goB_undef {want : Bool} {A B : Prop} : goB (.sc (.tuple #[])) want A B = B := by
  apply propext
  constructor
  · rintro ⟨c, hc, _, h2⟩
    rcases hc with hc | ⟨_, hc⟩
    · simp at hc
    · exact h2 hc
  · intro h; exact ⟨!want, .inr ⟨rfl, rfl⟩, fun h => by cases want <;> simp at h, fun _ => h⟩
theorem AStep_mv {x : Operand} : AStep P (.mv x) d st K = K (st.put d (ev P st x)) := by simp [AStep, SOp.isHv, pv]
theorem AStep_pick {c a b : Operand} : AStep P (.pick c a b) d st K = goP (aPick (ev P st c) (ev P st a) (ev P st b)) d st K := rfl
theorem AStep_bin {op : BinOp} {x y : Operand} : AStep P (.bin op x y) d st K = goP (aBin op (ev P st x) (ev P st y)) d st K := rfl
theorem AStep_beq {n : Bool} {x y : Operand} : AStep P (.beq n x y) d st K = goP (aBeq n (ev P st x) (ev P st y)) d st K := rfl
theorem AStep_aeq {n : Bool} {z : Value} {x y : Operand} : AStep P (.aeq n z x y) d st K = goP (aAeq n z (ev P st x) (ev P st y)) d st K := rfl
theorem AStep_isnil {n : Bool} {x : Operand} : AStep P (.isnil n x) d st K = goP (aIsnil n (frz st.hp (ev P st x))) d st K := rfl
theorem AStep_isnilp {n : Bool} {x : Operand} : AStep P (.isnilp n x) d st K = goP (aIsnilp n (ev P st x)) d st K := rfl
theorem AStep_strz {x : Operand} : AStep P (.strz x) d st K = goH (aStrz (ev P st x) st.hp st.gc) d st K := rfl
theorem AStep_un {op : UnOp} {x : Operand} : AStep P (.un op x) d st K = goP (aUn op (ev P st x)) d st K := rfl
theorem AStep_ci {k : IntKind} {x : Operand} : AStep P (.ci k x) d st K = goP (aCi k (ev P st x)) d st K := rfl
theorem AStep_sid {x : Operand} : AStep P (.sid x) d st K = goP ((aStrId (ev P st x)).1, ev P st x) d st K := rfl
theorem AStep_b2s {x : Operand} : AStep P (.b2s x) d st K = goP (aB2s (frz st.hp (ev P st x))) d st K := rfl
theorem AStep_s2b {x : Operand} : AStep P (.s2b x) d st K = goP (aS2b (ev P st x)) d st K := rfl
theorem AStep_sls {x : Operand} {lo hi : Option Operand} : AStep P (.sls x lo hi) d st K = goP (aSls (ev P st x) (lo.map (ev P st)) (hi.map (ev P st))) d st K := rfl
theorem AStep_sl {es : Option Nat} {x : Operand} {lo hi : Option Operand} : AStep P (.sl es x lo hi) d st K = goP (aSl es (ev P st x) (lo.map (ev P st)) (hi.map (ev P st))) d st K := rfl
theorem AStep_sl3 {es : Option Nat} {x hi mx : Operand} {lo : Option Operand} : AStep P (.sl3 es x lo hi mx) d st K = goP (aSl3 es (ev P st x) (lo.map (ev P st)) (ev P st hi) (ev P st mx)) d st K := rfl
theorem AStep_sla {n : Nat} {es : Option Nat} {x : Operand} {lo hi : Option Operand} : AStep P (.sla n es x lo hi) d st K = goP (aSla n es (ev P st x) (lo.map (ev P st)) (hi.map (ev P st)) st.hp) d st K := rfl
theorem AStep_faddr {o : Nat} {x : Operand} : AStep P (.faddr o x) d st K = goP (aFaddr o (ev P st x)) d st K := rfl
theorem AStep_fld {o : Nat} {sz : Option Nat} {x : Operand} : AStep P (.fld o sz x) d st K = goP (aFld o sz (ev P st x)) d st K := rfl
theorem AStep_iaddr {es : Option Nat} {x i : Operand} : AStep P (.iaddr es x i) d st K = goP (aIaddr es (ev P st x) (ev P st i)) d st K := rfl
theorem AStep_iaddrA {n : Nat} {es : Option Nat} {x i : Operand} : AStep P (.iaddrA n es x i) d st K = goP (aIaddrA n es (ev P st x) (ev P st i)) d st K := rfl
theorem AStep_idxS {x i : Operand} : AStep P (.idxS x i) d st K = goP (aIdxS (ev P st x) (ev P st i)) d st K := rfl
theorem AStep_idxA {n : Nat} {es : Option Nat} {x i : Operand} : AStep P (.idxA n es x i) d st K = goP (aIdxA n es (ev P st x) (ev P st i)) d st K := rfl
theorem AStep_load {sz : Option Nat} {x : Operand} : AStep P (.load sz x) d st K = goP (aLoad sz (ev P st x) st.hp) d st K := rfl
theorem AStep_build {z : List Value} {ps : List (Nat × Nat × Operand)} : AStep P (.build z ps) d st K = goP (aBuild (z.map .sc) (ps.map fun p => (p.1, p.2.1, ev P st p.2.2))) d st K := rfl
theorem AStep_bslice {es : Option Nat} {ps : List Operand} : AStep P (.bslice es ps) d st K = goP (aBslice es (ps.map (ev P st))) d st K := rfl
theorem AStep_ext {x : Operand} {i : Nat} : AStep P (.ext x i) d st K = goP (aExt i (ev P st x)) d st K := rfl
theorem AStep_nilc {x : Operand} : AStep P (.nilc x) d st K = goP (aNilc (ev P st x)) d st K := rfl
theorem AStep_lenS {x : Operand} : AStep P (.len true x) d st K = goP (aLenS (ev P st x)) d st K := rfl
theorem AStep_len {x : Operand} : AStep P (.len false x) d st K = goP (aLen (ev P st x)) d st K := rfl
theorem AStep_app {es : Option Nat} {b : Nat} {x y : Operand} : AStep P (.app es b x y) d st K = goH (aApp es b (ev P st x) (ev P st y) st.hp st.gc (d.getD 0)) d st K := rfl
theorem AStep_apps {b : Nat} {x y : Operand} : AStep P (.apps b x y) d st K = goH (aApps b (ev P st x) (ev P st y) st.hp st.gc (d.getD 0)) d st K := rfl
theorem AStep_appz {es : Option Nat} {b : Nat} {z : List Value} {x y : Operand} : AStep P (.appz es b z x y) d st K = goH (aAppz es b z (ev P st x) (ev P st y) st.hp st.gc (d.getD 0)) d st K := rfl
theorem AStep_capn {x : Operand} : AStep P (.capn x) d st K = goP (aCapn (ev P st x)) d st K := rfl
theorem AStep_mks {es : Option Nat} {b : Nat} {z : List Value} {x y : Operand} : AStep P (.mks es b z x y) d st K = goH (aMks es b z (ev P st x) (ev P st y) st.hp st.gc (d.getD 0)) d st K := rfl
theorem AStep_store {sz : Option Nat} {x y : Operand} : AStep P (.store sz x y) d st K = goH (aStore sz (ev P st x) (ev P st y) st.hp st.gc) d st K := rfl
theorem AStep_alloc {z : List Value} : AStep P (.alloc z) d st K = goH (True, .op (d.getD 0) st.gc 0, updH st.hp (d.getD 0) (some (st.gc, .row false (z.map .sc))), st.gc + 1) d st K := rfl
theorem AStep_bsl {es : Option Nat} {ps : List Operand} : AStep P (.bsl es ps) d st K = goH (aBsl es (ps.map (ev P st)) st.hp st.gc (d.getD 0)) d st K := rfl
theorem AStep_emp {es : Option Nat} : AStep P (.emp es) d st K = goH (True, .own (d.getD 0) st.gc es 0 0, updH st.hp (d.getD 0) (some (st.gc, .row false [])), st.gc + 1) d st K := rfl
theorem AStep_box {x : Operand} : AStep P (.box x) d st K = goH (aBox (ev P st x) st.hp st.gc (d.getD 0)) d st K := rfl
theorem AStep_copy {x y : Operand} : AStep P (.copy x y) d st K = goH (aCopy (ev P st x) (ev P st y) st.hp st.gc) d st K := rfl
def goV (P : Program) [Tabs P] (h : Bool) (x : AV) (ins : List AV) (d : Option Nat) (st : ASt) (K : ASt → Prop) : Prop := ∃ f caps, funA x = some (f, caps) ∧ callable P f = true ∧ goC P h f (ins ++ caps) d st K
theorem AStep_mkf {f : Nat} {caps : List Operand} : AStep P (.mkf f caps) d st K = goP (True, .clo f (caps.map (ev P st))) d st K := rfl
theorem AStep_mkm : AStep P .mkm d st K = goH (True, .mp (d.getD 0) st.gc, updH st.hp (d.getD 0) (some (st.gc, .row false [.tup []])), st.gc + 1) d st K := rfl
theorem AStep_mget {ok : Bool} {z zv : Value} {x k : Operand} : AStep P (.mget ok z zv x k) d st K = goP (aMget ok z zv (ev P st x) (ev P st k) st.hp) d st K := rfl
theorem AStep_mset {z : Value} {x k v : Operand} : AStep P (.mset z x k v) d st K = goH (aMset z (ev P st x) (ev P st k) (ev P st v) st.hp st.gc) d st K := rfl
theorem AStep_mdel {z : Value} {x k : Operand} : AStep P (.mdel z x k) d st K = goH (aMdel z (ev P st x) (ev P st k) st.hp st.gc) d st K := rfl
theorem AStep_mlen {x : Operand} : AStep P (.mlen x) d st K = goP (aMlen (ev P st x) st.hp) d st K := rfl
theorem AStep_mm {mx : Bool} {x : Operand} {xs : List Operand} : AStep P (.mm mx x xs) d st K = goP (aMm mx (ev P st x) (xs.map (ev P st))) d st K := rfl
@[congr] theorem goV_congr {t : Bool} {x x' : AV} {p p' : List AV} (hx : x = x') (h : p = p') (h' : st = st') : goV P t x p d st K = goV P t x' p' d st' K := by rw [hx, h, h']
theorem AStep_callv {t : Bool} {x : Operand} {args : List Operand} : AStep P (.callv t x args) d st K = goV P t (ev P st x) (args.map (ev P st)) d st K := rfl
theorem AStep_call {t : Bool} {f : Nat} {args : List Operand} : AStep P (.call t f args) d st K = goC P t f (args.map (ev P st)) d st K := rfl
theorem wrap_i64_id {x : Int} (h1 : -9223372036854775808 ≤ x) (h2 : x ≤ 9223372036854775807) : IntKind.i64.wrap x = x := by rw [IntKind.wrap_i64]; omega
theorem wrap_u8 {x : Int} : IntKind.u8.wrap x = x % 256 := by simp [IntKind.wrap, IntKind.bits, IntKind.signed]
theorem wrap_u8_id {x : Int} (h1 : 0 ≤ x) (h2 : x < 256) : IntKind.u8.wrap x = x := by rw [wrap_u8]; omega
end
end Go.Proofs.YtbmmdkbinlnogaaDoor.Aw
