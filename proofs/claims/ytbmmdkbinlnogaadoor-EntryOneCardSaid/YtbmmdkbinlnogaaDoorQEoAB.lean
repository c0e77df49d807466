/- Parts of the proofs of Eo. -/
import Derived.Test.YtbmmdkbinlnogaaDoorQEoAA
import Derived.DeepKeys5
import Derived.StringKeys
namespace Go.Proofs.YtbmmdkbinlnogaaDoor.Aw
open Go
set_option linter.unusedSimpArgs false
set_option linter.unusedVariables false
inductive SOp where
  | no
  | mv (x : Operand)
  | pick (c a b : Operand)
  | bin (op : BinOp) (x y : Operand)
  | beq (neg : Bool) (x y : Operand)
  | isnil (neg : Bool) (x : Operand)
  | isnilp (neg : Bool) (x : Operand)
  | strz (x : Operand)
  | un (op : UnOp) (x : Operand)
  | ci (k : IntKind) (x : Operand)
  | sid (x : Operand)
  | b2s (x : Operand)
  | s2b (x : Operand)
  | sls (x : Operand) (lo hi : Option Operand)
  | sl (es : Option Nat) (x : Operand) (lo hi : Option Operand)
  | sla (n : Nat) (es : Option Nat) (x : Operand) (lo hi : Option Operand)
  | sl3 (es : Option Nat) (x : Operand) (lo : Option Operand) (hi mx : Operand)
  | faddr (off : Nat) (x : Operand)
  | fld (off : Nat) (sz : Option Nat) (x : Operand)
  | iaddr (es : Option Nat) (x i : Operand)
  | iaddrA (n : Nat) (es : Option Nat) (x i : Operand)
  | idxS (x i : Operand)
  | idxA (n : Nat) (es : Option Nat) (x i : Operand)
  | load (sz : Option Nat) (x : Operand)
  | store (sz : Option Nat) (x v : Operand)
  | alloc (zero : List Value)
  | box (x : Operand)
  | build (zero : List Value) (parts : List (Nat × Nat × Operand))
  | bslice (es : Option Nat) (parts : List Operand)
  | bsl (es : Option Nat) (parts : List Operand)
  | emp (es : Option Nat)
  | mks (es : Option Nat) (bytes : Nat) (zero : List Value) (l c : Operand)
  | ext (x : Operand) (i : Nat)
  | nilc (x : Operand)
  | len (st : Bool) (x : Operand)
  | app (es : Option Nat) (bytes : Nat) (x y : Operand)
  | appz (es : Option Nat) (bytes : Nat) (zero : List Value) (x n : Operand)
  | apps (bytes : Nat) (x y : Operand)
  | aeq (neg : Bool) (z : Value) (x y : Operand)
  | capn (x : Operand)
  | copy (x y : Operand)
  | call (h : Bool) (f : Nat) (args : List Operand)
  | callv (h : Bool) (x : Operand) (args : List Operand)
  | mkf (f : Nat) (caps : List Operand)
  | mkm
  | mget (ok : Bool) (z zv : Value) (x k : Operand)
  | mset (z : Value) (x k v : Operand)
  | mdel (z : Value) (x k : Operand)
  | mlen (x : Operand)
  | mm (mx : Bool) (x : Operand) (xs : List Operand)
  deriving Inhabited
structure SOper where
  dst : Option Nat
  op : SOp
  guard : Option (Nat × Bool)
  deriving Inhabited
def cellsA : AV → Option (List AV)
  | .agg xs => some xs
  | .junk | .tup _ => none
  | .sc (.agg _) | .sc (.tuple _) => none
  | x => some [x]
def u8 (c : UInt8) : AV := .sc (.int .u8 c.toNat)
def bytes (l : List UInt8) : AV := .sl false none (l.map u8)
def str (l : List UInt8) : AV := .sc (.string ⟨l.toArray⟩)
def int (n : Int) : AV := .sc (.int .i64 n)
def boo (b : Bool) : AV := .sc (.bool b)
def unu8 : AV → UInt8
  | .sc (.int _ n) => UInt8.ofNat n.toNat
  | _ => 0
def chunks : Option Nat → Nat → List AV → List AV
  | none, n, cs => cs.take n
  | some _, 0, _ => []
  | some s, n + 1, cs => .agg (cs.take s) :: chunks (some s) n (cs.drop s)
def flat : Option Nat → List AV → List AV
  | none, xs => xs
  | some _, xs => xs.flatMap fun x => (cellsA x).getD []
def frz (hp : Hp) : AV → AV
  | .own id g es lo n =>
    match hp id with
    | some (g', .row nl cells) => if g' = g ∧ lo + n * esz es ≤ cells.length then .sl nl es (chunks es n (cells.drop lo)) else .junk
    | none => .junk
  | .op id g off =>
    match hp id with
    | some (g', .row _ cells) => if g' = g ∧ AV.free.freeL cells = true then .fp (.agg cells) off else .junk
    | none => .junk
  | .agg xs => .agg (frzL hp xs)
  | .tup xs => .tup (frzL hp xs)
  | .mp _ _ => .junk
  | .clo f xs => .clo f (frzL hp xs)
  | x => x
where frzL (hp : Hp) : List AV → List AV
  | [] => []
  | x :: xs => frz hp x :: frzL hp xs
def stuckR : Prop × AV := (False, .junk)
def live (hp : Hp) (id g : Nat) : Prop := (hp id).map (·.1) = some g
def aInt (op : BinOp) (k : IntKind) (a : Int) (k' : IntKind) (b : Int) : Prop × AV :=
  match op with
  | .add => (k = k', .sc (.int k (k.wrap (a + b))))
  | .sub => (k = k', .sc (.int k (k.wrap (a - b))))
  | .mul => (k = k', .sc (.int k (k.wrap (a * b))))
  | .quo => (k = k' ∧ b ≠ 0, .sc (.int k (k.wrap (a.tdiv b))))
  | .rem => (k = k' ∧ b ≠ 0, .sc (.int k (a.tmod b)))
  | .and => (k = k', .sc (.int k (k.wrap (BitVec.ofInt k.bits a &&& BitVec.ofInt k.bits b).toNat)))
  | .or => (k = k', .sc (.int k (k.wrap (BitVec.ofInt k.bits a ||| BitVec.ofInt k.bits b).toNat)))
  | .xor => (k = k', .sc (.int k (k.wrap (BitVec.ofInt k.bits a ^^^ BitVec.ofInt k.bits b).toNat)))
  | .andNot => (k = k', .sc (.int k (k.wrap (BitVec.ofInt k.bits a &&& ~~~ (BitVec.ofInt k.bits b)).toNat)))
  | .shl => (0 ≤ b, .sc (.int k (k.wrap (a * 2 ^ (min b.toNat k.bits)))))
  | .shr => (0 ≤ b, .sc (.int k (a.fdiv (2 ^ (min b.toNat k.bits)))))
  | .eql => (k = k', boo (decide (a = b)))
  | .neq => (k = k', boo (!decide (a = b)))
  | .lss => (k = k', boo (decide (a < b)))
  | .leq => (k = k', boo (decide (a ≤ b)))
  | .gtr => (k = k', boo (decide (b < a)))
  | .geq => (k = k', boo (decide (b ≤ a)))
def aStr (op : BinOp) (x y : ByteArray) : Prop × AV :=
  let a := x.data.toList
  let b := y.data.toList
  match op with
  | .add => (a.length + b.length ≤ 9223372036854775807, str (a ++ b))
  | .eql => (True, boo (decide (a = b)))
  | .neq => (True, boo (!decide (a = b)))
  | .lss => (True, boo (Op.bytesLess a b))
  | .leq => (True, boo (Op.bytesLess a b || decide (a = b)))
  | .gtr => (True, boo (!(Op.bytesLess a b || decide (a = b))))
  | .geq => (True, boo (!Op.bytesLess a b))
  | _ => stuckR
def aBin (op : BinOp) : AV → AV → Prop × AV
  | .sc (.int k a), .sc (.int k' b) => aInt op k a k' b
  | .sc (.string a), .sc (.string b) => aStr op a b
  | _, _ => stuckR
def aUn (op : UnOp) : AV → Prop × AV
  | .sc (.int k n) => (match op with
    | .neg => (True, .sc (.int k (k.wrap (0 - n))))
    | .xor => (True, .sc (.int k (k.wrap (BitVec.ofInt k.bits (if k.signed then -1 else k.max) ^^^ BitVec.ofInt k.bits n).toNat)))
    | _ => stuckR)
  | .sc (.bool b) => (match op with | .not => (True, boo !b) | _ => stuckR)
  | _ => stuckR
def aBeq (neg : Bool) : AV → AV → Prop × AV
  | .sc (.bool a), .sc (.bool b) => (True, boo (neg ^^ (a == b)))
  | _, _ => stuckR
def aPick : AV → AV → AV → Prop × AV
  | .sc (.bool t), x, y => (True, if t then x else y)
  | _, _, _ => stuckR
def aCi (k : IntKind) : AV → Prop × AV
  | .sc (.int _ n) => (True, .sc (.int k (k.wrap n)))
  | _ => stuckR
def aIsnil (neg : Bool) : AV → Prop × AV
  | .sl nl _ _ => (True, boo (neg ^^ nl))
  | .sc (.slice b _ _) => (True, boo (neg ^^ b.isNone))
  | _ => stuckR
def aIsnilp (neg : Bool) : AV → Prop × AV
  | .fp _ _ => (True, boo neg)
  | .op _ _ _ => (True, boo neg)
  | .sc (.pointer a) => (True, boo (neg ^^ a.isNone))
  | _ => stuckR
def aStrId : AV → Prop × AV
  | .sc (.string s) => (True, .sc (.string s))
  | _ => stuckR
def aB2s : AV → Prop × AV
  | .sl _ none xs => (xs = (xs.map unu8).map u8, str (xs.map unu8))
  | .sc (.slice none 0 0) => (True, str [])
  | _ => stuckR
def aS2b : AV → Prop × AV
  | .sc (.string s) => (s.size ≤ 140737488355328, .sl false none (s.data.toList.map u8))
  | _ => stuckR
def aBound (dflt : Int) : Option AV → Prop × Int
  | none => (True, dflt)
  | some (.sc (.int _ n)) => (True, n)
  | _ => (False, 0)
def aSls (x : AV) (lo hi : Option AV) : Prop × AV :=
  match x with
  | .sc (.string s) =>
    let l := aBound 0 lo
    let h := aBound s.data.toList.length hi
    (l.1 ∧ h.1 ∧ 0 ≤ l.2 ∧ l.2 ≤ h.2 ∧ h.2 ≤ s.data.toList.length, str ((s.data.toList.take h.2.toNat).drop l.2.toNat))
  | _ => stuckR
def aSl (es : Option Nat) (x : AV) (lo hi : Option AV) : Prop × AV :=
  match x with
  | .sl nl es' xs =>
    let l := aBound 0 lo
    let h := aBound xs.length hi
    (es = es' ∧ l.1 ∧ h.1 ∧ 0 ≤ l.2 ∧ l.2 ≤ h.2 ∧ h.2 ≤ xs.length, .sl nl es ((xs.take h.2.toNat).drop l.2.toNat))
  | .own id g es' o n =>
    let l := aBound 0 lo
    let h := aBound n hi
    (es = es' ∧ l.1 ∧ h.1 ∧ 0 ≤ l.2 ∧ l.2 ≤ h.2 ∧ h.2 ≤ n, .own id g es (o + l.2.toNat * esz es) (h.2.toNat - l.2.toNat))
  | .sc (.slice none 0 0) =>
    let l := aBound 0 lo
    let h := aBound 0 hi
    (l.1 ∧ h.1 ∧ 0 ≤ l.2 ∧ l.2 ≤ h.2 ∧ h.2 ≤ 0, .sc (.slice none 0 0))
  | _ => stuckR
def aSl3 (es : Option Nat) (x : AV) (lo : Option AV) (hi mx : AV) : Prop × AV :=
  match x with
  | .sl nl es' xs =>
    let l := aBound 0 lo
    let h := aBound 0 (some hi)
    let m := aBound 0 (some mx)
    (es = es' ∧ l.1 ∧ h.1 ∧ m.1 ∧ 0 ≤ l.2 ∧ l.2 ≤ h.2 ∧ h.2 ≤ m.2 ∧ m.2 ≤ xs.length, .sl nl es ((xs.take h.2.toNat).drop l.2.toNat))
  | .own id g es' o n =>
    let l := aBound 0 lo
    let h := aBound 0 (some hi)
    let m := aBound 0 (some mx)
    (es = es' ∧ l.1 ∧ h.1 ∧ m.1 ∧ 0 ≤ l.2 ∧ l.2 ≤ h.2 ∧ h.2 ≤ m.2 ∧ m.2 ≤ n, .own id g es (o + l.2.toNat * esz es) (h.2.toNat - l.2.toNat))
  | .sc (.slice none 0 0) =>
    let l := aBound 0 lo
    let h := aBound 0 (some hi)
    let m := aBound 0 (some mx)
    (l.1 ∧ h.1 ∧ m.1 ∧ 0 ≤ l.2 ∧ l.2 ≤ h.2 ∧ h.2 ≤ m.2 ∧ m.2 ≤ 0, .sc (.slice none 0 0))
  | _ => stuckR
def aSla (n : Nat) (es : Option Nat) (x : AV) (lo hi : Option AV) (hp : Hp) : Prop × AV :=
  match x with
  | .op id g o =>
    let l := aBound 0 lo
    let h := aBound n hi
    ((∃ nl cells, hp id = some (g, .row nl cells) ∧ o + n * esz es ≤ cells.length) ∧ l.1 ∧ h.1 ∧ 0 ≤ l.2 ∧ l.2 ≤ h.2 ∧ h.2 ≤ n, .own id g es (o + l.2.toNat * esz es) (h.2.toNat - l.2.toNat))
  | .fp (.agg xs) 0 =>
    let l := aBound 0 lo
    let h := aBound n hi
    (es = none ∧ n = xs.length ∧ l.1 ∧ h.1 ∧ 0 ≤ l.2 ∧ l.2 ≤ h.2 ∧ h.2 ≤ n, .sl false none ((xs.take h.2.toNat).drop l.2.toNat))
  | _ => stuckR
def aFaddr (off : Nat) : AV → Prop × AV
  | .fp y o => (True, .fp y (o + off))
  | .op id g o => (True, .op id g (o + off))
  | _ => stuckR
def partA (sz : Option Nat) (off : Nat) (cs : List AV) : Prop × AV :=
  match sz with
  | none => (off < cs.length, cs.getD off .junk)
  | some n => (off + n ≤ cs.length, .agg ((cs.drop off).take n))
def aFld (off : Nat) (sz : Option Nat) : AV → Prop × AV
  | .agg xs => partA sz off xs
  | _ => stuckR
def aIaddr (es : Option Nat) : AV → AV → Prop × AV
  | .sl _ es' xs, .sc (.int _ i) => (es = es' ∧ 0 ≤ i ∧ i < xs.length, .fp (xs.getD i.toNat .junk) 0)
  | .own id g es' lo n, .sc (.int _ i) => (es = es' ∧ 0 ≤ i ∧ i < n, .op id g (lo + i.toNat * esz es))
  | _, _ => stuckR
def aIaddrA (n : Nat) (es : Option Nat) : AV → AV → Prop × AV
  | .fp y o, .sc (.int _ i) => (0 ≤ i ∧ i < n, .fp y (o + i.toNat * esz es))
  | .op id g o, .sc (.int _ i) => (0 ≤ i ∧ i < n, .op id g (o + i.toNat * esz es))
  | _, _ => stuckR
def aIdxS : AV → AV → Prop × AV
  | .sc (.string s), .sc (.int _ i) => (0 ≤ i ∧ i < s.data.toList.length, u8 (s.data.toList.getD i.toNat 0))
  | _, _ => stuckR
def aIdxA (n : Nat) (es : Option Nat) : AV → AV → Prop × AV
  | .agg xs, .sc (.int _ i) => ((0 ≤ i ∧ i < n) ∧ (partA es (i.toNat * esz es) xs).1, (partA es (i.toNat * esz es) xs).2)
  | _, _ => stuckR
def aLoad (sz : Option Nat) (x : AV) (hp : Hp) : Prop × AV :=
  match x with
  | .fp y o => (match cellsA y with | some cs => partA sz o cs | none => stuckR)
  | .op id g o => (match hp id with
    | some (g', .row _ cells) => (g' = g ∧ (partA sz o cells).1, (partA sz o cells).2)
    | none => stuckR)
  | _ => stuckR
def aExt (i : Nat) : AV → Prop × AV
  | .tup xs => (i < xs.length, xs.getD i .junk)
  | _ => stuckR
def aNilc : AV → Prop × AV
  | .fp y o => (True, .fp y o)
  | .op id g o => (True, .op id g o)
  | _ => stuckR
def aLenS : AV → Prop × AV
  | .sc (.string s) => (True, int s.data.toList.length)
  | _ => stuckR
def aLen : AV → Prop × AV
  | .sl _ _ xs => (True, int xs.length)
  | .own _ _ _ _ n => (True, int n)
  | .sc (.slice none 0 0) => (True, int 0)
  | _ => stuckR
def splice (off : Nat) (ys cs : List AV) : List AV := cs.take off ++ ys ++ cs.drop (off + ys.length)
def aBuild (cs : List AV) : List (Nat × Nat × AV) → Prop × AV
  | [] => (True, .agg cs)
  | (off, n, x) :: r => match cellsA x with
    | some ys => ((ys.length = n ∧ off + ys.length ≤ cs.length) ∧ (aBuild (splice off ys cs) r).1, (aBuild (splice off ys cs) r).2)
    | none => stuckR
def shA (es : Option Nat) (x : AV) : Prop :=
  match es with
  | none => cellsA x = some [x]
  | some n => ∃ xs, x = .agg xs ∧ xs.length = n
def allSh (es : Option Nat) : List AV → Prop
  | [] => True
  | x :: xs => shA es x ∧ x.free = true ∧ allSh es xs
def aBslice (es : Option Nat) (xs : List AV) : Prop × AV := (allSh es xs, .sl false es xs)
def aCapn : AV → Prop × AV
  | .sl true _ [] => (True, .sc (.int .i64 0))
  | .sc (.slice none 0 0) => (True, .sc (.int .i64 0))
  | _ => stuckR
def likeA1 : Value → AV → Prop
  | .int k _, .sc (.int k' n) => k' = k ∧ k.min ≤ n ∧ n ≤ k.max
  | .string _, .sc (.string s) => s.size ≤ 9223372036854775807
  | .bool _, .sc (.bool _) => True
  | _, _ => False
def likeAL : List Value → List AV → Prop
  | [], [] => True
  | z :: zs, x :: xs => likeA1 z x ∧ likeAL zs xs
  | _, _ => False
def likeA : Value → AV → Prop
  | .agg zs, .agg xs => likeAL zs.toList xs
  | z, x => likeA1 z x
def entsOk (z : Value) : List AV → Prop
  | [] => True
  | .tup [k, _] :: es => likeA z k ∧ entsOk z es
  | _ => False
open Classical in
noncomputable def mfind (k : AV) : List AV → Option AV
  | .tup [k', v] :: es => if k = k' then some v else mfind k es
  | _ => none
open Classical in
noncomputable def mput (k v : AV) : List AV → List AV
  | .tup [k', v'] :: es => if k = k' then .tup [k', v] :: es else .tup [k', v'] :: mput k v es
  | _ => [.tup [k, v]]
open Classical in
noncomputable def mcut (k : AV) : List AV → List AV
  | .tup [k', v'] :: es => if k = k' then es else .tup [k', v'] :: mcut k es
  | _ => []
def mapA (hp : Hp) : AV → Prop × List AV
  | .mp id g => (match hp id with
    | some (g', .row false [.tup es]) => (g' = g, es)
    | _ => (False, []))
  | .sc (.map none) => (True, [])
  | _ => (False, [])
def zeroA : Value → AV
  | .agg cs => .agg (cs.toList.map .sc)
  | v => .sc v
noncomputable def aMget (ok : Bool) (z zv : Value) (x k : AV) (hp : Hp) : Prop × AV :=
  ((mapA hp x).1 ∧ entsOk z (mapA hp x).2 ∧ likeA z k,
    if ok then .tup [(mfind k (mapA hp x).2).getD (zeroA zv), boo (mfind k (mapA hp x).2).isSome] else (mfind k (mapA hp x).2).getD (zeroA zv))
noncomputable def aMset (z : Value) (x k v : AV) (hp : Hp) (gc : Nat) : Prop × AV × Hp × Nat :=
  match x with
  | .mp id g => (match hp id with
    | some (g', .row false [.tup es]) => (g' = g ∧ entsOk z es ∧ likeA z k, .junk, updH hp id (some (g, .row false [.tup (mput k v es)])), gc)
    | _ => (False, .junk, hp, gc))
  | _ => (False, .junk, hp, gc)
noncomputable def aMdel (z : Value) (x k : AV) (hp : Hp) (gc : Nat) : Prop × AV × Hp × Nat :=
  match x with
  | .mp id g => (match hp id with
    | some (g', .row false [.tup es]) => (g' = g ∧ entsOk z es ∧ likeA z k, .tup [], updH hp id (some (g, .row false [.tup (mcut k es)])), gc)
    | _ => (False, .junk, hp, gc))
  | _ => (False, .junk, hp, gc)
def aMlen (x : AV) (hp : Hp) : Prop × AV := ((mapA hp x).1, int (mapA hp x).2.length)
def mm2 (mx : Bool) : AV → AV → Prop × AV
  | .sc (.int k a), .sc (.int _ b) => (True, .sc (.int k (if mx then (if a < b then b else a) else (if b < a then b else a))))
  | _, _ => (False, .junk)
def aMm (mx : Bool) (x : AV) : List AV → Prop × AV
  | [] => (True, x)
  | y :: ys => ((mm2 mx x y).1 ∧ (aMm mx (mm2 mx x y).2 ys).1, (aMm mx (mm2 mx x y).2 ys).2)
open Classical in
noncomputable def eqB (x y : AV) : Bool := decide (x = y)
noncomputable def aAeq (neg : Bool) (z : Value) (x y : AV) : Prop × AV := (likeA z x ∧ likeA z y, boo (neg ^^ eqB x y))
noncomputable def pv (s : SOp) (e : Operand → AV) (hp : Hp) : Prop × AV :=
  match s with
  | .mv x => (True, e x)
  | .pick c a b => aPick (e c) (e a) (e b)
  | .bin op x y => aBin op (e x) (e y)
  | .beq neg x y => aBeq neg (e x) (e y)
  | .aeq neg z x y => aAeq neg z (e x) (e y)
  | .isnil neg x => aIsnil neg (frz hp (e x))
  | .isnilp neg x => aIsnilp neg (e x)
  | .un op x => aUn op (e x)
  | .ci k x => aCi k (e x)
  | .sid x => ((aStrId (e x)).1, e x)
  | .b2s x => aB2s (frz hp (e x))
  | .s2b x => aS2b (e x)
  | .sls x lo hi => aSls (e x) (lo.map e) (hi.map e)
  | .sl es x lo hi => aSl es (e x) (lo.map e) (hi.map e)
  | .sla n es x lo hi => aSla n es (e x) (lo.map e) (hi.map e) hp
  | .sl3 es x lo hi mx => aSl3 es (e x) (lo.map e) (e hi) (e mx)
  | .faddr off x => aFaddr off (e x)
  | .fld off sz x => aFld off sz (e x)
  | .iaddr es x i => aIaddr es (e x) (e i)
  | .iaddrA n es x i => aIaddrA n es (e x) (e i)
  | .idxS x i => aIdxS (e x) (e i)
  | .idxA n es x i => aIdxA n es (e x) (e i)
  | .load sz x => aLoad sz (e x) hp
  | .build zero parts => aBuild (zero.map .sc) (parts.map fun p => (p.1, p.2.1, e p.2.2))
  | .bslice es parts => aBslice es (parts.map e)
  | .ext x i => aExt i (e x)
  | .nilc x => aNilc (e x)
  | .len st x => if st then aLenS (e x) else aLen (e x)
  | .capn x => aCapn (e x)
  | .mkf f caps => (True, .clo f (caps.map e))
  | .mget ok z zv x k => aMget ok z zv (e x) (e k) hp
  | .mlen x => aMlen (e x) hp
  | .mm mx x xs => aMm mx (e x) (xs.map e)
  | _ => stuckR
def elemsA (es : Option Nat) (hp : Hp) : AV → Prop × List AV
  | .sl _ es' xs => (es' = es, xs)
  | .own id g es' lo n =>
    (match hp id with
    | some (g', .row _ cells) => (g' = g ∧ es' = es ∧ lo + n * esz es ≤ cells.length, chunks es n (cells.drop lo))
    | none => (False, []))
  | .sc (.slice none 0 0) => (True, [])
  | _ => (False, [])
def flatOk (es : Option Nat) (ys : List AV) : Prop :=
  match es with
  | none => True
  | some _ => ∀ y ∈ ys, ∃ xs, y = .agg xs
def aApp (es : Option Nat) (bytes : Nat) (x y : AV) (hp : Hp) (gc d : Nat) : Prop × AV × Hp × Nat :=
  match x with
  | .own id g es' lo n =>
    (match hp id with
    | some (g', .row nl cells) =>
      ((elemsA es hp y).1 ∧ flatOk es (elemsA es hp y).2 ∧ es' = es ∧ g' = g ∧ lo = 0 ∧ n * esz es = cells.length ∧ (n + (elemsA es hp y).2.length) * bytes ≤ 70368744177664 ∧ n + (elemsA es hp y).2.length ≤ 70368744177664,
        .own id gc es 0 (n + (elemsA es hp y).2.length), updH hp id (some (gc, .row (nl && (elemsA es hp y).2.isEmpty) (cells ++ flat es (elemsA es hp y).2))), gc + 1)
    | none => (False, .junk, hp, gc))
  | .sl true es' [] =>
    ((elemsA es hp y).1 ∧ flatOk es (elemsA es hp y).2 ∧ es' = es ∧ (elemsA es hp y).2.length * bytes ≤ 70368744177664 ∧ (elemsA es hp y).2.length ≤ 70368744177664,
      .own d gc es 0 (elemsA es hp y).2.length, updH hp d (some (gc, .row (elemsA es hp y).2.isEmpty (flat es (elemsA es hp y).2))), gc + 1)
  | .sc (.slice none 0 0) =>
    ((elemsA es hp y).1 ∧ flatOk es (elemsA es hp y).2 ∧ (elemsA es hp y).2.length * bytes ≤ 70368744177664 ∧ (elemsA es hp y).2.length ≤ 70368744177664,
      .own d gc es 0 (elemsA es hp y).2.length, updH hp d (some (gc, .row (elemsA es hp y).2.isEmpty (flat es (elemsA es hp y).2))), gc + 1)
  | _ => (False, .junk, hp, gc)
def aAppz (es : Option Nat) (bytes : Nat) (zero : List Value) (x n : AV) (hp : Hp) (gc d : Nat) : Prop × AV × Hp × Nat :=
  match n with
  | .sc (.int _ k) =>
    (match x with
    | .own id g es' lo m =>
      (match hp id with
      | some (g', .row nl cells) =>
        (0 ≤ k ∧ es' = es ∧ g' = g ∧ lo = 0 ∧ m * esz es = cells.length ∧ (m + k.toNat) * bytes ≤ 70368744177664 ∧ m + k.toNat ≤ 70368744177664 ∧ zero.length = esz es,
          .own id gc es 0 (m + k.toNat), updH hp id (some (gc, .row (nl && (k.toNat == 0)) (cells ++ (List.replicate k.toNat (zero.map AV.sc)).flatten))), gc + 1)
      | none => (False, .junk, hp, gc))
    | .sl true es' [] =>
      (0 ≤ k ∧ es' = es ∧ k.toNat * bytes ≤ 70368744177664 ∧ k.toNat ≤ 70368744177664 ∧ zero.length = esz es,
        .own d gc es 0 k.toNat, updH hp d (some (gc, .row (k.toNat == 0) (List.replicate k.toNat (zero.map AV.sc)).flatten)), gc + 1)
    | .sc (.slice none 0 0) =>
      (0 ≤ k ∧ k.toNat * bytes ≤ 70368744177664 ∧ k.toNat ≤ 70368744177664 ∧ zero.length = esz es,
        .own d gc es 0 k.toNat, updH hp d (some (gc, .row (k.toNat == 0) (List.replicate k.toNat (zero.map AV.sc)).flatten)), gc + 1)
    | _ => (False, .junk, hp, gc))
  | _ => (False, .junk, hp, gc)
def aApps (bytes : Nat) (x y : AV) (hp : Hp) (gc d : Nat) : Prop × AV × Hp × Nat :=
  match y with
  | .sc (.string s) =>
    (match x with
    | .own id g es' lo m =>
      (match hp id with
      | some (g', .row nl cells) =>
        (es' = none ∧ g' = g ∧ lo = 0 ∧ m = cells.length ∧ (m + s.data.toList.length) * bytes ≤ 70368744177664 ∧ m + s.data.toList.length ≤ 70368744177664,
          .own id gc none 0 (m + s.data.toList.length), updH hp id (some (gc, .row (nl && s.data.toList.isEmpty) (cells ++ s.data.toList.map u8))), gc + 1)
      | none => (False, .junk, hp, gc))
    | .sc (.slice none 0 0) =>
      (s.data.toList.length * bytes ≤ 70368744177664 ∧ s.data.toList.length ≤ 70368744177664,
        .own d gc none 0 s.data.toList.length, updH hp d (some (gc, .row s.data.toList.isEmpty (s.data.toList.map u8))), gc + 1)
    | _ => (False, .junk, hp, gc))
  | _ => (False, .junk, hp, gc)
def allShW (es : Option Nat) : List AV → Prop
  | [] => True
  | x :: xs => shA es x ∧ allShW es xs
def aBsl (es : Option Nat) (xs : List AV) (hp : Hp) (gc d : Nat) : Prop × AV × Hp × Nat :=
  (allShW es xs, .own d gc es 0 xs.length, updH hp d (some (gc, .row false (flat es xs))), gc + 1)
def aStrz (x : AV) (hp : Hp) (gc : Nat) : Prop × AV × Hp × Nat :=
  match x with
  | .own id g es lo n =>
    (match hp id with
    | some (g', .row nl cells) => (g' = g ∧ es = none ∧ nl = false ∧ lo + n ≤ cells.length, .sl false none (chunks none n (cells.drop lo)), updH hp id none, gc)
    | none => (False, .junk, hp, gc))
  | _ => (False, .junk, hp, gc)
def aMks (es : Option Nat) (bytes : Nat) (zero : List Value) (l c : AV) (hp : Hp) (gc d : Nat) : Prop × AV × Hp × Nat :=
  match l, c with
  | .sc (.int _ l), .sc (.int _ c) =>
    (0 ≤ l ∧ l ≤ c ∧ c * bytes ≤ 140737488355328 ∧ c ≤ 140737488355328 ∧ zero.length = esz es,
      .own d gc es 0 l.toNat, updH hp d (some (gc, .row false ((List.replicate l.toNat (zero.map AV.sc)).flatten))), gc + 1)
  | _, _ => (False, .junk, hp, gc)
def aStore (sz : Option Nat) (x v : AV) (hp : Hp) (gc : Nat) : Prop × AV × Hp × Nat :=
  match x, cellsA v with
  | .op id g o, some ys =>
    (match hp id with
    | some (g', .row nl cells) => (g' = g ∧ ys.length = esz sz ∧ o + ys.length ≤ cells.length, .junk, updH hp id (some (g, .row nl (splice o ys cells))), gc)
    | none => (False, .junk, hp, gc))
  | _, _ => (False, .junk, hp, gc)
def aBox (x : AV) (hp : Hp) (gc d : Nat) : Prop × AV × Hp × Nat :=
  match cellsA x with
  | some ys => (True, .op d gc 0, updH hp d (some (gc, .row false ys)), gc + 1)
  | none => (False, .junk, hp, gc)
def aCopy (x y : AV) (hp : Hp) (gc : Nat) : Prop × AV × Hp × Nat :=
  match x with
  | .own id g es lo n =>
    (match hp id with
    | some (g', .row nl cells) => ((elemsA none hp y).1 ∧ es = none ∧ g' = g ∧ lo + n ≤ cells.length,
        int (min (elemsA none hp y).2.length n : Nat), updH hp id (some (g, .row nl (splice lo ((elemsA none hp y).2.take n) cells))), gc)
    | none => (False, .junk, hp, gc))
  | _ => (False, .junk, hp, gc)
noncomputable def hv (s : SOp) (e : Operand → AV) (hp : Hp) (gc d : Nat) : Prop × AV × Hp × Nat :=
  match s with
  | .app es bytes x y => aApp es bytes (e x) (e y) hp gc d
  | .appz es bytes zero x n => aAppz es bytes zero (e x) (e n) hp gc d
  | .apps bytes x y => aApps bytes (e x) (e y) hp gc d
  | .mks es bytes zero l c => aMks es bytes zero (e l) (e c) hp gc d
  | .store sz x v => aStore sz (e x) (e v) hp gc
  | .alloc zero => (True, .op d gc 0, updH hp d (some (gc, .row false (zero.map .sc))), gc + 1)
  | .box x => aBox (e x) hp gc d
  | .emp es => (True, .own d gc es 0 0, updH hp d (some (gc, .row false [])), gc + 1)
  | .bsl es parts => aBsl es (parts.map e) hp gc d
  | .strz x => aStrz (e x) hp gc
  | .copy x y => aCopy (e x) (e y) hp gc
  | .mkm => (True, .mp d gc, updH hp d (some (gc, .row false [.tup []])), gc + 1)
  | .mset z x k v => aMset z (e x) (e k) (e v) hp gc
  | .mdel z x k => aMdel z (e x) (e k) hp gc
  | _ => (False, .junk, hp, gc)
def SOp.isHv : SOp → Bool
  | .app .. | .appz .. | .apps .. | .mks .. | .store .. | .alloc _ | .box _ | .copy .. | .emp _ | .bsl .. | .strz _ | .mkm | .mset .. | .mdel .. => true
  | .call h _ _ => h
  | .callv h _ _ => h
  | _ => false
def SOp.weak : SOp → SOp
  | .call _ f args => .call false f args
  | .callv _ x args => .callv false x args
  | .bsl es ps => .bslice es ps
  | s => s
def szT (P : Program) (t : TypeId) : Option (Option Nat) :=
  match P.underlying t with
  | some (.struct _) | some (.array _ _) => some (some (P.cellsOf t))
  | some _ => if P.cellsOf t = 1 then some none else none
  | none => none
def zeroT (P : Program) (t : TypeId) : Option (List Value) :=
  match (P.info? t).bind (·.zero) with
  | some z => if z.cells.toList.all Value.oneCell' then some z.cells.toList else none
  | none => none
def plainInt (v : Operand) : Bool := match v with | .const (.slice none 0 0) => true | _ => false
def plainPtr (v : Operand) : Bool := match v with | .const (.pointer none) => true | _ => false
def keyZ (P : Program) (t : TypeId) : Option Value :=
  if P.types.size + 2 ≤ 10000 && laidOutB P && decide (t < P.types.size) && P.keyType t then
    match P.underlying t, (P.info? t).bind (·.zero) with
    | some (.int k), some (.int k' n) => if k = k' then some (.int k' n) else none
    | some .bool, some (.bool b) => some (.bool b)
    | some .string, some (.string s) => some (.string s)
    | some (.array n e), some (.agg cs) => if cs.size = n && P.cellsOf e = 1 && P.cellsOf t = n && cs.toList.all (fun v => plainOf P e v) then some (.agg cs) else none
    | some (.struct fs), some (.agg cs) => if cs.size = fs.size && P.cellsOf t = fs.size && (fs.toList.map (·.offset)) == List.range fs.size && fs.toList.all (fun f => P.cellsOf f.type = 1 && f.name != "_") && (fs.toList.zip cs.toList).all (fun p => plainOf P p.1.type p.2) then some (.agg cs) else none
    | _, _ => none
  else none
where plainOf (P : Program) (e : TypeId) (v : Value) : Bool :=
  match P.underlying e, v with
  | some (.int k), .int k' _ => k = k'
  | some .bool, .bool _ => true
  | some .string, .string _ => true
  | _, _ => false
def partsIn (n : Nat) (parts : List (Nat × Operand)) : Bool := (parts.map (·.1)) == List.range n
def slimOp (P : Program) (o : Oper) : SOp :=
  match o.op with
  | .move x | .assign x => .mv x
  | .pick c a b => .pick c a b
  | .alloc t => (match zeroT P t with | some z => .alloc z | none => .no)
  | .box _ x => .box x
  | .build t parts => (match zeroT P t, P.underlying t with
    | some z, some (.struct fs) => (match fs.toList.mapM (fun f => (P.info? f.type).map fun i => (f.offset, i.size)) with
      | some places => (match parts.toList.mapM fun p => (places.toArray[p.1]?).map fun q => (q.1, q.2, p.2) with
        | some ps => .build z ps
        | none => .no)
      | none => .no)
    | some z, some (.array _ e) => (match P.info? e with
      | some ie => .build z (parts.toList.map fun p => (p.1 * ie.size, ie.size, p.2))
      | none => .no)
    | _, _ => .no)
  | .buildSlice t len parts => (match P.underlying t with
    | some (.slice e) => (match szT P e, zeroT P e with
      | some es, some z => if z.length = esz es && partsIn len parts.toList && 0 < len && 0 < esz es && len * esz es ≤ 16777216 then .bslice es (parts.toList.map (·.2)) else if len = 0 && parts.toList.isEmpty then .emp es else .no
      | _, _ => .no)
    | _ => .no)
  | .load t x => (match szT P t with | some sz => .load sz x | none => .no)
  | .store t x v => (match szT P t with | some sz => .store sz x v | none => .no)
  | .nilCheck x => .nilc x
  | .binOp op t x y _ => (match P.underlying t with
    | some (.int _) | some .string => .bin op x y
    | some .bool => (match op with | .eql => .beq false x y | .neq => .beq true x y | _ => .no)
    | some (.slice _) => if plainInt y then (match op with | .eql => .isnil false x | .neq => .isnil true x | _ => .no) else .no
    | some (.pointer _) => if plainPtr y then (match op with | .eql => .isnilp false x | .neq => .isnilp true x | _ => .no) else .no
    | some (.struct _) | some (.array _ _) => (match keyZ P t with
      | some z => if P.eqGuardType P.depth t then .no else (match op with | .eql => .aeq false z x y | .neq => .aeq true z x y | _ => .no)
      | none => .no)
    | _ => .no)
  | .unOp op _ x => .un op x
  | .convert s d x => (match P.underlying s, P.underlying d with
    | some (.int _), some (.int k) => .ci k x
    | some .string, some .string => .sid x
    | some (.slice e), some .string => (match P.underlying e with | some (.int .u8) => .b2s x | _ => .no)
    | some .string, some (.slice e) => (match P.underlying e with | some (.int .u8) => .s2b x | _ => .no)
    | some (.slice _), some (.slice e) => if s = d then (match P.underlying e with | some (.int .u8) => .strz x | _ => .no) else .no
    | _, _ => .no)
  | .makeSlice t l c => (match P.underlying t with
    | some (.slice e) => (match szT P e, zeroT P e, P.info? e with
      | some es, some z, some i => if z.length = i.size && i.size = esz es && 0 < i.size then .mks es i.bytes z l c else .no
      | _, _, _ => .no)
    | _ => .no)
  | .slice t x lo hi none => (match P.underlying t with
    | some .string => .sls x lo hi
    | some (.slice e) => (match szT P e with | some es => .sl es x lo hi | none => .no)
    | some (.array n e) => (match szT P e with | some es => .sla n es x lo hi | none => .no)
    | _ => .no)
  | .slice t x lo (some h) (some m) => (match P.underlying t with
    | some (.slice e) => (match szT P e with | some es => .sl3 es x lo h m | none => .no)
    | _ => .no)
  | .fieldAddr s x f => (match P.underlying s with
    | some (.struct fs) => (match fs[f]? with | some fd => if P.cellsOf fd.type = 0 then .no else .faddr fd.offset x | none => .no)
    | _ => .no)
  | .field t x f => (match P.underlying t with
    | some (.struct fs) => (match fs[f]? with | some fd => (match szT P fd.type with | some sz => .fld fd.offset sz x | none => .no) | none => .no)
    | _ => .no)
  | .indexAddr t x i => (match P.underlying t with
    | some (.slice e) => (match szT P e with | some es => .iaddr es x i | none => .no)
    | some (.array n e) => (match szT P e with | some es => .iaddrA n es x i | none => .no)
    | _ => .no)
  | .index t x i => (match P.underlying t with
    | some .string => .idxS x i
    | some (.array n e) => (match szT P e with | some es => .idxA n es x i | none => .no)
    | _ => .no)
  | .extract x i => .ext x i
  | .makeFunc (.func f) first caps => if first.isEmpty then .mkf f caps.toList else .no
  | .makeMap _ none => .mkm
  | .makeMap t (some (.const (.int _ _))) => (match P.underlying t with | some (.map _ _) => .mkm | _ => .no)
  | .lookup t x k ok => (match P.underlying t with
    | some (.map kt e) => (match keyZ P kt, (P.info? e).bind (·.zero) with
      | some z, some zv => if zv.cells.toList.all Value.oneCell' then .mget ok z zv x k else .no
      | _, _ => .no)
    | _ => .no)
  | .mapUpdate t m k v => (match P.underlying t with
    | some (.map kt _) => (match keyZ P kt with | some z => .mset z m k v | none => .no)
    | _ => .no)
  | .call c => (match c.callee with
    | .builtin .len => (match c.args.toList, c.argTypes.toList with
      | [x], [t] => (match P.underlying t with
        | some .string => .len true x
        | some (.slice _) => .len false x
        | some (.map _ _) => .mlen x
        | _ => .no)
      | _, _ => .no)
    | .builtin .delete => (match c.args.toList, c.argTypes.toList with
      | [x, k], t :: _ => (match P.underlying t with
        | some (.map kt _) => (match keyZ P kt with | some z => .mdel z x k | none => .no)
        | _ => .no)
      | _, _ => .no)
    | .builtin .min => (match c.args.toList with
      | x :: y :: xs => .mm false x (y :: xs)
      | _ => .no)
    | .builtin .max => (match c.args.toList with
      | x :: y :: xs => .mm true x (y :: xs)
      | _ => .no)
    | .builtin .append => (match c.args.toList, c.argTypes.toList with
      | [x, y], [t, u] => (match P.underlying t, P.underlying u with
        | some (.slice e), some (.slice _) => if t = u then (match szT P e, P.info? e with
          | some es, some i => if (zeroT P e).isSome && i.size = esz es && 0 < i.size && ((zeroT P e).getD []).length = i.size then .app es i.bytes x y else .no
          | _, _ => .no) else .no
        | some (.slice e), some (.int _) => (match szT P e, P.info? e, zeroT P e with
          | some es, some i, some z => if i.size = esz es && 0 < i.size && z.length = i.size then .appz es i.bytes z x y else .no
          | _, _, _ => .no)
        | some (.slice e), some .string => (match szT P e, P.info? e, zeroT P e with
          | some none, some i, some z => if i.size = 1 && z.length = 1 then .apps i.bytes x y else .no
          | _, _, _ => .no)
        | _, _ => .no)
      | _, _ => .no)
    | .builtin .copy => (match c.args.toList, c.argTypes.toList with
      | [x, y], [t, u] => (match P.underlying t, P.underlying u with
        | some (.slice e), some (.slice _) => (match szT P e with | some none => .copy x y | _ => .no)
        | _, _ => .no)
      | _, _ => .no)
    | .builtin .cap => (match c.args.toList, c.argTypes.toList with
      | [x], [t] => (match P.underlying t with
        | some (.slice _) => .capn x
        | _ => .no)
      | _, _ => .no)
    | .value (.func f) => (match P.funcs[f]? with
      | some fn => if fn.body.isSome && fn.name != "runtime.NumGoroutine" then .call true f c.args.toList else .no
      | none => .no)
    | .value (.tmp t) => .callv true (.tmp t) c.args.toList
    | _ => .no)
  | _ => .no
def AV.flat : AV → Bool
  | .junk | .sc _ => true
  | .agg xs | .tup xs => flatL xs
  | _ => false
where flatL : List AV → Bool
  | [] => true
  | x :: xs => x.flat && flatL xs
def Con (P : Program) [Tabs P] (f : Nat) (ins : List AV) (out : AV) : Prop :=
  ∀ (w : World) (S : Nat → Prop) (vs : List Value), TabOk P S w → (∀ b, S b → b < w.heap.size) → RdL ⟨S, fun _ _ => none⟩ w ins vs →
    Calls P f vs.toArray w fun e w' => ∃ v S', e = .returned v ∧ Keep w.heap.size (fun _ => False) w w' ∧ (∀ b, S b → S' b) ∧ (∀ b, S' b → S b ∨ w.heap.size ≤ b) ∧ (∀ b, S' b → b < w'.heap.size) ∧
      out.free = true ∧ Rd ⟨S', fun _ _ => none⟩ w' out v
def CallOk (P : Program) [Tabs P] (f : Nat) (ins : List AV) (hp : Hp) (out : AV) : Prop :=
  (AV.free.freeL ins = true ∧ Con P f ins out) ∨ (out.flat = true ∧ AV.free.freeL (frz.frzL hp ins) = true ∧ Con P f (frz.frzL hp ins) out)
def lookH : List (Nat × Nat × AO) → Hp
  | [], _ => none
  | (s, v) :: r, t => if t = s then some v else lookH r t
def ren (ρ : Nat → Nat → Nat × Nat) : AV → AV
  | .own id g es lo n => .own (ρ id g).1 (ρ id g).2 es lo n
  | .op id g off => .op (ρ id g).1 (ρ id g).2 off
  | .agg xs => .agg (renL ρ xs)
  | .tup xs => .tup (renL ρ xs)
  | .sl nl es xs => .sl nl es (renL ρ xs)
  | .fp y off => .fp (ren ρ y) off
  | .mp id g => .mp (ρ id g).1 (ρ id g).2
  | .clo f xs => .clo f (renL ρ xs)
  | .sc v => .sc v
  | .junk => .junk
where renL (ρ : Nat → Nat → Nat × Nat) : List AV → List AV
  | [] => []
  | x :: xs => ren ρ x :: renL ρ xs
def AO.ren (ρ : Nat → Nat → Nat × Nat) : AO → AO
  | .row nl cells => .row nl (Aw.ren.renL ρ cells)
def AV.fo : AV → Bool
  | .junk | .sc _ | .own _ _ _ _ _ | .op _ _ _ | .mp _ _ => true
  | .agg xs | .tup xs | .clo _ xs => foL xs
  | _ => false
where foL : List AV → Bool
  | [] => true
  | x :: xs => x.fo && foL xs
def hin0 (hin : List AO) : Hp := fun id => if 1000 ≤ id then (hin[id - 1000]?).map (fun o => (0, o)) else none
def handed (n id : Nat) : Prop := 1000 ≤ id ∧ id - 1000 < n
instance (n id : Nat) : Decidable (handed n id) := inferInstanceAs (Decidable (_ ∧ _))
def rho (hs : List (Nat × Nat)) (D c : Nat) (id g : Nat) : Nat × Nat :=
  if handed hs.length id then ((hs.getD (id - 1000) (0, 0)).1, if g = 0 then (hs.getD (id - 1000) (0, 0)).2 else c + g) else (D + id, c + g)
def HCon (P : Program) [Tabs P] (f : Nat) (ins : List AV) (hin : List AO) (out : AV) (hout : List (Nat × Nat × AO)) (k : Nat) : Prop :=
  AV.gl.glL 1 ins ∧ (∀ nl cells, AO.row nl cells ∈ hin → AV.gl.glL 1 cells) ∧
  ∀ (w : World) (G : Gh) (M : Nat → Prop) (vs : List Value), TabOk P G.S w → Heap 1 M G (hin0 hin) w → RdL G w ins vs →
    Calls P f vs.toArray w fun e w' => ∃ v G', e = .returned v ∧ Keep w.heap.size M w w' ∧ Ext 1 G w G' w' ∧ Heap k (fun b => w.heap.size ≤ b ∨ M b) G' (lookH hout) w' ∧ Rd G' w' out v ∧ out.gl k ∧ (∀ b, G'.S b → G.S b ∨ w.heap.size ≤ b ∨ M b)
def dropH (hp : Hp) (hs : List (Nat × Nat)) : Hp := hs.foldr (fun p h => updH h p.1 none) hp
def outHp (hp : Hp) (hs : List (Nat × Nat)) (D c : Nat) (hout : List (Nat × Nat × AO)) : Hp :=
  hout.foldr (fun p h => updH h (rho hs D c p.1 p.2.1).1 (some ((rho hs D c p.1 p.2.1).2, p.2.2.ren (rho hs D c)))) (dropH hp hs)
def handOk (hp : Hp) (ρ : Nat → Nat → Nat × Nat) : List (Nat × Nat) → List AO → Prop
  | [], [] => True
  | p :: hs, o :: hin => hp p.1 = some (p.2, o.ren ρ) ∧ handOk hp ρ hs hin
  | _, _ => False
def argsB (hp : Hp) (ρ : Nat → Nat → Nat × Nat) : List AV → List AV → Prop
  | [], [] => True
  | x :: ins, y :: insC => (x = ren ρ y ∨ (frz hp x = y ∧ y.free = true)) ∧ argsB hp ρ ins insC
  | _, _ => False
def foH : List (Nat × Nat × AO) → Bool
  | [] => true
  | (_, _, .row _ cells) :: r => AV.fo.foL cells && foH r
def fzo (id g : Nat) (nl : Bool) (cells : List AV) : AV → AV
  | .own i k es lo n => if i = id ∧ k = g then (if lo + n * esz es ≤ cells.length then .sl nl es (chunks es n (cells.drop lo)) else .junk) else .own i k es lo n
  | .op i k off => if i = id ∧ k = g then .fp (.agg cells) off else .op i k off
  | .mp i k => if i = id ∧ k = g then .junk else .mp i k
  | .agg xs => .agg (fzoL id g nl cells xs)
  | .tup xs => .tup (fzoL id g nl cells xs)
  | .clo f xs => .clo f (fzoL id g nl cells xs)
  | x => x
where fzoL (id g : Nat) (nl : Bool) (cells : List AV) : List AV → List AV
  | [] => []
  | x :: xs => fzo id g nl cells x :: fzoL id g nl cells xs
def FCallOk (P : Program) [Tabs P] (f : Nat) (ins : List AV) (hp : Hp) (c : Nat) (r : AV) (hp' : Hp) (c' : Nat) : Prop :=
  ∃ (id g : Nat) (nl : Bool) (cells : List AV), hp id = some (g, .row nl cells) ∧ AV.free.freeL cells = true ∧ AV.free.freeL (fzo.fzoL id g nl cells ins) = true ∧ Con P f (fzo.fzoL id g nl cells ins) r ∧ hp' = updH hp id none ∧ c' = c
def HCallOk0 (P : Program) [Tabs P] (f : Nat) (ins : List AV) (hp : Hp) (c : Nat) (r : AV) (hp' : Hp) (c' : Nat) : Prop :=
  ∃ (hs : List (Nat × Nat)) (D : Nat) (insC : List AV) (hin : List AO) (out : AV) (hout : List (Nat × Nat × AO)) (k : Nat),
    HCon P f insC hin out hout k ∧ (hs.map (·.1)).Nodup ∧ (∀ p ∈ hs, p.1 < D) ∧ handOk hp (rho hs D c) hs hin ∧
    (ins = ren.renL (rho hs D c) insC ∨ (argsB (dropH hp hs) (rho hs D c) ins insC ∧ out.fo = true ∧ foH hout = true)) ∧
    r = ren (rho hs D c) out ∧ hp' = outHp hp hs D c hout ∧ c' = c + k
def HCallOk (P : Program) [Tabs P] (f : Nat) (ins : List AV) (hp : Hp) (c : Nat) (r : AV) (hp' : Hp) (c' : Nat) : Prop := HCallOk0 P f ins hp c r hp' c' ∨ FCallOk P f ins hp c r hp' c'
def callable (P : Program) (f : Nat) : Bool := match P.funcs[f]? with
  | some fn => fn.body.isSome && fn.name != "runtime.NumGoroutine"
  | none => false
def funA : AV → Option (Nat × List AV)
  | .sc (.func (.func f) a b) => if a.size = 0 ∧ b.size = 0 then some (f, []) else none
  | .clo f caps => some (f, caps)
  | _ => none
def AStep (P : Program) [Tabs P] (s : SOp) (d : Option Nat) (st : ASt) (K : ASt → Prop) : Prop :=
  match s with
  | .call h f args => (∃ out, CallOk P f (args.map (ev P st)) st.hp out ∧ K (st.put d out)) ∨
      (h = true ∧ ∃ r hp' c', HCallOk P f (args.map (ev P st)) st.hp st.gc r hp' c' ∧ K (ASt.put ⟨st.tm, hp', c', st.N⟩ d r))
  | .callv h x args => ∃ f caps, funA (ev P st x) = some (f, caps) ∧ callable P f = true ∧ ((∃ out, CallOk P f (args.map (ev P st) ++ caps) st.hp out ∧ K (st.put d out)) ∨
      (h = true ∧ ∃ r hp' c', HCallOk P f (args.map (ev P st) ++ caps) st.hp st.gc r hp' c' ∧ K (ASt.put ⟨st.tm, hp', c', st.N⟩ d r)))
  | s => if s.isHv then
      (hv s (ev P st) st.hp st.gc (d.getD 0)).1 ∧ K (ASt.put ⟨st.tm, (hv s (ev P st) st.hp st.gc (d.getD 0)).2.2.1, (hv s (ev P st) st.hp st.gc (d.getD 0)).2.2.2, st.N⟩ d (hv s (ev P st) st.hp st.gc (d.getD 0)).2.1)
    else (pv s (ev P st) st.hp).1 ∧ K (st.put d (pv s (ev P st) st.hp).2)
end Go.Proofs.YtbmmdkbinlnogaaDoor.Aw
