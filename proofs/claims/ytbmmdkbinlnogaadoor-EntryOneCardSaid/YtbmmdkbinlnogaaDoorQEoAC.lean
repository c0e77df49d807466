/- Parts of the proofs of Eo. -/
import Derived.Test.YtbmmdkbinlnogaaDoorQEoAB
import Derived.Laws.AppendOwn
import Derived.Laws.MakeOwn
import Derived.Laws.CopyRow
import Derived.Laws.BytesString
import Derived.Laws.Cells
namespace Go.Proofs.YtbmmdkbinlnogaaDoor.Aw
open Go
set_option linter.unusedSimpArgs false
set_option linter.unusedVariables false
theorem toList_loop (s : ByteArray) : ∀ (n i : Nat) (r : List UInt8), s.size - i = n → ByteArray.toList.loop s i r = r.reverse ++ s.data.toList.drop i
  | 0, i, r, h => by
    unfold ByteArray.toList.loop
    have hs : s.size = s.data.toList.length := by rw [Array.length_toList]; rfl
    rw [if_neg (by omega), List.drop_of_length_le (by omega)]; simp
  | n + 1, i, r, h => by
    unfold ByteArray.toList.loop
    have hs : s.size = s.data.toList.length := by rw [Array.length_toList]; rfl
    rw [if_pos (by omega), toList_loop s n (i + 1) _ (by omega)]
    have hi : i < s.data.toList.length := by omega
    rw [List.drop_eq_getElem_cons hi]
    have : s.get! i = s.data.toList[i] := by
      simp only [ByteArray.get!]
      simp at hi
      simp [getElem!_pos, hi]
    simp [this]
theorem toList_data (s : ByteArray) : s.toList = s.data.toList := by
  unfold ByteArray.toList
  rw [toList_loop s _ 0 [] rfl]; simp
theorem str_data (s : ByteArray) : str s.data.toList = .sc (.string s) := by simp [str]
theorem size_data (s : ByteArray) : s.size = s.data.toList.length := by rw [Array.length_toList]; rfl
section
variable {P : Program} {G : Gh} {w : World} {c : Nat}
theorem Rd.sc_inv {v x : Value} (h : Rd G w (.sc v) x) : x = v := by simpa [Rd] using h
theorem rd_boo {b : Bool} : Rd G w (boo b) (.bool b) := by simp [boo, Rd]
theorem gl_boo {b : Bool} : (boo b).gl c := by simp [boo, AV.gl]
theorem gl_int {b : Int} : (int b).gl c := by simp [int, AV.gl]
theorem gl_str {b : List UInt8} : (str b).gl c := by simp [str, AV.gl]
theorem gl_u8 {b : UInt8} : (u8 b).gl c := by simp [u8, AV.gl]
theorem aBin_sound {op : BinOp} {T : TypeId} {x y : AV} {vx vy : Value} (hp : (aBin op x y).1) (hx : Rd G w x vx) (hy : Rd G w y vy) :
    ∃ v, (binOp op T vx vy).run P w = .ok v w ∧ Rd G w (aBin op x y).2 v ∧ (aBin op x y).2.gl c := by
  unfold aBin at *
  split at hp
  · rename_i k a k' b
    have hx := hx.sc_inv
    have hy := hy.sc_inv
    subst hx; subst hy
    cases op <;> simp only [aInt] at hp ⊢
    all_goals first
      | (subst hp; refine ⟨_, by simp [binOp, Op.intArith]; rfl, by simp [Rd], by simp [AV.gl]⟩; done)
      | (subst hp; refine ⟨_, by simp [binOp, Op.intBits]; rfl, by simp [Rd], by simp [AV.gl]⟩; done)
      | (subst hp; refine ⟨_, by simp [binOp, Op.intCmp]; rfl, by simp [Rd, boo]; try rfl, by simp [AV.gl, boo]⟩; done)
      | (obtain ⟨rfl, h0⟩ := hp; refine ⟨_, by simp [binOp, Op.intDiv, h0]; rfl, by simp [Rd], by simp [AV.gl]⟩; done)
      | (have h0 : ¬ b < 0 := by omega
         refine ⟨_, by simp [binOp, Op.shift, h0]; rfl, by simp [Rd], by simp [AV.gl]⟩; done)
  · rename_i s t
    have hx := hx.sc_inv
    have hy := hy.sc_inv
    subst hx; subst hy
    have e : (s.toList == t.toList) = decide (s.data.toList = t.data.toList) := by rw [toList_data, toList_data, Bool.eq_iff_iff]; simp
    cases op <;> simp only [aStr] at hp ⊢
    case add =>
      have h1 : ¬ (IntKind.i64.max < ((s.size + t.size : Nat) : Int)) := by
        rw [size_data, size_data]; have : IntKind.i64.max = 9223372036854775807 := by decide
        omega
      refine ⟨_, by simp only [binOp, Op.stringOp]; rw [if_neg h1]; rfl, ?_, gl_str⟩
      simp only [str, Rd]
      congr 1
    case eql => exact ⟨_, by simp only [binOp, Op.stringOp, e]; rfl, rd_boo, gl_boo⟩
    case neq => exact ⟨_, by simp only [binOp, Op.stringOp, e]; rfl, rd_boo, gl_boo⟩
    case lss => exact ⟨_, by simp only [binOp, Op.stringOp, toList_data]; rfl, rd_boo, gl_boo⟩
    case geq => exact ⟨_, by simp only [binOp, Op.stringOp, toList_data]; rfl, rd_boo, gl_boo⟩
    case leq => exact ⟨_, by simp only [binOp, Op.stringOp]; rw [e, toList_data, toList_data]; rfl, rd_boo, gl_boo⟩
    case gtr => exact ⟨_, by simp only [binOp, Op.stringOp]; rw [e, toList_data, toList_data]; rfl, rd_boo, gl_boo⟩
    all_goals simp [stuckR] at hp
  · simp [stuckR] at hp
theorem aUn_sound {op : UnOp} {x : AV} {vx : Value} (hp : (aUn op x).1) (hx : Rd G w x vx) :
    ∃ v, (Op.unary op vx).run P w = .ok v w ∧ Rd G w (aUn op x).2 v ∧ (aUn op x).2.gl c := by
  unfold aUn at *
  split at hp
  · have hx := hx.sc_inv
    subst hx
    split at hp
    · exact ⟨_, by simp [Op.unary, Op.intArith]; rfl, by simp [Rd], by simp [AV.gl]⟩
    · exact ⟨_, by simp [Op.unary, Op.intBits]; rfl, by simp [Rd], by simp [AV.gl]⟩
    · simp [stuckR] at hp
  · have hx := hx.sc_inv
    subst hx
    split at hp
    · exact ⟨_, by simp [Op.unary]; rfl, by simp [Rd, boo], by simp [AV.gl, boo]⟩
    · simp [stuckR] at hp
  · simp [stuckR] at hp
theorem aPick_sound {x y z : AV} {vx vy vz : Value} (hp : (aPick x y z).1) (hx : Rd G w x vx) (hy : Rd G w y vy) (hz : Rd G w z vz) (gy : y.gl c) (gz : z.gl c) :
    ∃ t, vx = .bool t ∧ Rd G w (aPick x y z).2 (if t then vy else vz) ∧ (aPick x y z).2.gl c := by
  unfold aPick at *
  split at hp
  · have hx := hx.sc_inv
    subst hx
    refine ⟨_, rfl, ?_⟩
    split <;> simp_all
  · simp [stuckR] at hp
theorem aCi_sound {k : IntKind} {x : AV} {vx : Value} (hp : (aCi k x).1) (hx : Rd G w x vx) :
    ∃ kk n, vx = .int kk n ∧ (aCi k x).2 = .sc (.int k (k.wrap n)) := by
  unfold aCi at *
  split at hp
  · have hx := hx.sc_inv
    exact ⟨_, _, hx, rfl⟩
  · simp [stuckR] at hp
theorem aBound_sound {d : Int} {x : Option AV} {vx : Option Value} (hp : (aBound d x).1) (hx : ∀ a, x = some a → ∃ v, vx = some v ∧ Rd G w a v) (hn : x = none → vx = none) :
    (vx = none ∧ (aBound d x).2 = d) ∨ ∃ k, vx = some (.int k (aBound d x).2) := by
  unfold aBound at *
  split at hp
  · exact .inl ⟨hn rfl, rfl⟩
  · obtain ⟨v, h1, h2⟩ := hx _ rfl
    have := h2.sc_inv
    subst this
    exact .inr ⟨_, h1⟩
  · exact absurd hp (by simp)
theorem run_bounds {isS : Bool} {len cap : Nat} {lo hi : Option Value} {l h : Int}
    (hlo : (lo = none ∧ l = 0) ∨ ∃ k, lo = some (.int k l)) (hhi : (hi = none ∧ h = len) ∨ ∃ k, hi = some (.int k h)) (h0 : 0 ≤ l) (h1 : l ≤ h) (h2 : h ≤ len) (h3 : len ≤ cap) :
    (Instr.sliceBounds isS len cap lo hi none).run P w = .ok (l.toNat, h.toNat, cap) w := by
  have a1 : h ≤ (cap : Int) := by omega
  have a2 : 0 ≤ h := by omega
  rcases hlo with ⟨rfl, rfl⟩ | ⟨k, rfl⟩ <;> rcases hhi with ⟨rfl, rfl⟩ | ⟨k', rfl⟩ <;>
    simp [Instr.sliceBounds, Instr.sliceBound, asIntOf, *, Int.max_eq_left]
theorem run_bounds3 {isS : Bool} {len cap : Nat} {lo : Option Value} {k k' : IntKind} {l h m : Int}
    (hlo : (lo = none ∧ l = 0) ∨ ∃ k, lo = some (.int k l)) (h0 : 0 ≤ l) (h1 : l ≤ h) (h2 : h ≤ m) (h3 : m ≤ cap) :
    (Instr.sliceBounds isS len cap lo (some (.int k h)) (some (.int k' m))).run P w = .ok (l.toNat, h.toNat, m.toNat) w := by
  have a1 : 0 ≤ m := by omega
  have a2 : 0 ≤ h := by omega
  rcases hlo with ⟨rfl, rfl⟩ | ⟨k, rfl⟩ <;>
    simp [Instr.sliceBounds, Instr.sliceBound, asIntOf, *, Int.max_eq_left]
theorem aBound_some {d : Int} {a : AV} {v : Value} (hp : (aBound d (some a)).1) (ha : Rd G w a v) : ∃ k, v = .int k (aBound d (some a)).2 := by
  rcases aBound_sound (G := G) (w := w) (vx := some v) hp (fun b hb => ⟨v, rfl, by cases hb; exact ha⟩) (by simp) with ⟨h, _⟩ | ⟨k, h⟩
  · simp at h
  · exact ⟨k, by simpa using h⟩
theorem aSls_sound {T : TypeId} {x : AV} {lo hi : Option AV} {vx : Value} {vlo vhi : Option Value} (hp : (aSls x lo hi).1) (hx : Rd G w x vx) (ht : P.underlying T = some .string)
    (hlo : ∀ a, lo = some a → ∃ v, vlo = some v ∧ Rd G w a v) (hlo' : lo = none → vlo = none) (hhi : ∀ a, hi = some a → ∃ v, vhi = some v ∧ Rd G w a v) (hhi' : hi = none → vhi = none) :
    ∃ v, (Instr.sliceAt T vx vlo vhi none).run P w = .ok v w ∧ Rd G w (aSls x lo hi).2 v ∧ (aSls x lo hi).2.gl c := by
  unfold aSls at *
  split at hp
  · rename_i s
    have hx := hx.sc_inv
    subst hx
    obtain ⟨p1, p2, p3, p4, p5⟩ := hp
    have b1 := aBound_sound p1 hlo hlo'
    have b2 := aBound_sound p2 hhi hhi'
    rw [← size_data] at b2 p4 p5 p2
    have hb := run_bounds (P := P) (w := w) (isS := false) (len := s.size) (cap := s.size) b1 b2 p3 p4 p5 (Nat.le_refl _)
    refine ⟨_, by simp only [Instr.sliceAt, Instr.slice]; simp [underlying, ht, hb]; rfl, ?_, gl_str⟩
    simp only [str, Rd]
    congr 1
    apply ByteArray.ext
    rw [ByteArray.data_extract]
    apply Array.ext'
    simp [List.drop_take]
  · simp [stuckR] at hp
theorem info_of_underlying {t : TypeId} {d : TypeDesc} (h : P.underlying t = some d) : ∃ i, P.info? t = some i := by
  unfold Program.underlying at h
  cases hi : P.info? t with
  | none => rw [hi] at h; simp at h
  | some i => exact ⟨i, rfl⟩
theorem szT_info {t : TypeId} {es : Option Nat} (h : szT P t = some es) : ∃ i d, P.info? t = some i ∧ i.size = esz es ∧ P.cellsOf t = esz es ∧ P.underlying t = some d ∧ (d matches .struct _ | .array _ _) = es.isSome := by
  unfold szT at h
  split at h
  · rename_i fs hu
    obtain ⟨i, hi⟩ := info_of_underlying hu
    simp at h; subst h
    exact ⟨i, _, hi, by simp [esz, Program.cellsOf, hi], rfl, hu, rfl⟩
  · rename_i n e hu
    obtain ⟨i, hi⟩ := info_of_underlying hu
    simp at h; subst h
    exact ⟨i, _, hi, by simp [esz, Program.cellsOf, hi], rfl, hu, rfl⟩
  · rename_i d h1 h2 hu
    obtain ⟨i, hi⟩ := info_of_underlying hu
    split at h <;> simp at h
    rename_i hc
    subst h
    refine ⟨i, _, hi, by simpa [esz, Program.cellsOf, hi] using hc, hc, hu, ?_⟩
    cases d <;> simp_all
  · simp at h
theorem isAgg_run {t : TypeId} {es : Option Nat} (h : szT P t = some es) (w : World) : (isAgg t).run P w = .ok es.isSome w := by
  obtain ⟨i, d, _, _, _, hu, hd⟩ := szT_info h
  rw [← hd]
  cases d <;> simp [isAgg, underlying, hu]
theorem sizeOf_run {t : TypeId} {es : Option Nat} (h : szT P t = some es) (w : World) : (sizeOf t).run P w = .ok (esz es) w := by
  obtain ⟨i, d, hi, hs, _, hu, hd⟩ := szT_info h
  simp [sizeOf, typeInfo, hi, hs]
theorem Rd.cells {x : AV} {v : Value} {ys : List AV} (h : Rd G w x v) (hc : cellsA x = some ys) : RdL G w ys v.cells.toList := by
  unfold cellsA at hc
  split at hc
  · simp at hc; subst hc
    simp only [Rd] at h
    obtain ⟨cs, rfl, h, _⟩ := h
    simpa [Value.cells] using h
  · simp at hc
  · simp at hc
  · simp at hc
  · simp at hc
  · rename_i h1 h2 h3 h4 h5
    simp at hc; subst hc
    have hv : v.cells = #[v] := by
      cases x with
      | junk => simp at h2
      | agg xs => exact absurd rfl (h1 xs)
      | tup xs => exact absurd rfl (h3 xs)
      | sc u =>
        have := h.sc_inv; subst this
        cases v <;> first | rfl | (exfalso; first | exact h4 _ rfl | exact h5 _ rfl)
      | sl nl es xs => simp only [Rd] at h; obtain ⟨b, l, k, vs, rfl, _⟩ := h; rfl
      | fp y o => simp only [Rd] at h; obtain ⟨u, b, o', _, rfl, _⟩ := h; rfl
      | own id g es lo n => simp only [Rd] at h; rcases h.1 with ⟨rfl, _⟩ | ⟨b, l, k, rfl, _⟩ <;> rfl
      | op id g o => simp only [Rd] at h; obtain ⟨⟨a, rfl⟩, _⟩ := h; rfl
      | mp id g => simp only [Rd] at h; obtain ⟨⟨a, rfl⟩, _⟩ := h; rfl
      | clo f xs => simp only [Rd] at h; obtain ⟨_, rfl, _⟩ := h; rfl
    rw [hv]
    simp only [RdL]
    exact ⟨v, [], rfl, h, rfl⟩
theorem cells_one {x : AV} {v : Value} (h : Rd G w x v) (hc : cellsA x = some [x]) : v.cells = #[v] ∧ v.oneCell' = true := by
  have hl := h.cells hc
  simp only [RdL] at hl
  obtain ⟨u, r, h1, h2, rfl⟩ := hl
  have hs : v.cells = #[u] := by
    have := congrArg List.toArray h1
    simpa using this
  cases v with
  | agg cs =>
    exfalso
    cases x with
    | junk => simp [cellsA] at hc
    | agg xs => simp [cellsA] at hc; have := congrArg SizeOf.sizeOf hc; simp at this; omega
    | tup xs => simp [cellsA] at hc
    | sc u => have := h.sc_inv; subst this; simp [cellsA] at hc
    | sl nl es xs => simp only [Rd] at h; obtain ⟨b, l, k, vs, h, _⟩ := h; simp at h
    | fp y o => simp only [Rd] at h; obtain ⟨u, b, o', _, h, _⟩ := h; simp at h
    | own id g es lo n => simp only [Rd] at h; rcases h.1 with ⟨h, _⟩ | ⟨b, l, k, h, _⟩ <;> simp at h
    | op id g o => simp only [Rd] at h; obtain ⟨⟨a, h⟩, _⟩ := h; simp at h
    | mp id g => simp only [Rd] at h; obtain ⟨⟨a, h⟩, _⟩ := h; simp at h
    | clo f xs => simp only [Rd] at h; obtain ⟨_, h, _⟩ := h; simp at h
  | tuple cs =>
    exfalso
    cases x with
    | junk => simp [cellsA] at hc
    | agg xs => simp only [Rd] at h; obtain ⟨_, h, _⟩ := h; simp at h
    | tup xs => simp [cellsA] at hc
    | sc u => have := h.sc_inv; subst this; simp [cellsA] at hc
    | sl nl es xs => simp only [Rd] at h; obtain ⟨b, l, k, vs, h, _⟩ := h; simp at h
    | fp y o => simp only [Rd] at h; obtain ⟨u, b, o', _, h, _⟩ := h; simp at h
    | own id g es lo n => simp only [Rd] at h; rcases h.1 with ⟨h, _⟩ | ⟨b, l, k, h, _⟩ <;> simp at h
    | op id g o => simp only [Rd] at h; obtain ⟨⟨a, h⟩, _⟩ := h; simp at h
    | mp id g => simp only [Rd] at h; obtain ⟨⟨a, h⟩, _⟩ := h; simp at h
    | clo f xs => simp only [Rd] at h; obtain ⟨_, h, _⟩ := h; simp at h
  | _ => exact ⟨rfl, rfl⟩
theorem cells_ones {x : AV} {v : Value} {ys : List AV} (h : Rd G w x v) (hc : cellsA x = some ys) : ∀ u ∈ v.cells.toList, u.oneCell' = true := by
  cases x with
  | junk => simp [cellsA] at hc
  | agg xs =>
    simp only [Rd] at h
    obtain ⟨cs, rfl, _, h1⟩ := h
    simpa [Value.cells] using h1
  | tup xs => simp [cellsA] at hc
  | sc u =>
    have hx : cellsA (.sc u) = some [.sc u] := by
      cases u <;> simp [cellsA] at hc ⊢
    obtain ⟨h1, h2⟩ := cells_one h hx
    rw [h1]; simpa using h2
  | sl nl es xs =>
    obtain ⟨h1, h2⟩ := cells_one h (by simp [cellsA])
    rw [h1]; simpa using h2
  | fp y o =>
    obtain ⟨h1, h2⟩ := cells_one h (by simp [cellsA])
    rw [h1]; simpa using h2
  | own id g es lo n =>
    obtain ⟨h1, h2⟩ := cells_one h (by simp [cellsA])
    rw [h1]; simpa using h2
  | op id g o =>
    obtain ⟨h1, h2⟩ := cells_one h (by simp [cellsA])
    rw [h1]; simpa using h2
  | mp id g =>
    obtain ⟨h1, h2⟩ := cells_one h (by simp [cellsA])
    rw [h1]; simpa using h2
  | clo f xs =>
    obtain ⟨h1, h2⟩ := cells_one h (by simp [cellsA])
    rw [h1]; simpa using h2
theorem glL_get {xs : List AV} {i : Nat} {x : AV} (h : AV.gl.glL c xs) (hi : xs[i]? = some x) : x.gl c := glL_iff.1 h x (List.mem_of_getElem? hi)
theorem glL_take {xs : List AV} {n : Nat} (h : AV.gl.glL c xs) : AV.gl.glL c (xs.take n) := glL_iff.2 fun x hx => glL_iff.1 h x (List.mem_of_mem_take hx)
theorem glL_drop {xs : List AV} {n : Nat} (h : AV.gl.glL c xs) : AV.gl.glL c (xs.drop n) := glL_iff.2 fun x hx => glL_iff.1 h x (List.mem_of_mem_drop hx)
theorem glL_append {xs ys : List AV} (h : AV.gl.glL c xs) (h' : AV.gl.glL c ys) : AV.gl.glL c (xs ++ ys) :=
  glL_iff.2 fun x hx => (List.mem_append.1 hx).elim (glL_iff.1 h x) (glL_iff.1 h' x)
theorem cells_gl {x : AV} {ys : List AV} (h : x.gl c) (hc : cellsA x = some ys) : AV.gl.glL c ys := by
  unfold cellsA at hc
  split at hc <;> simp at hc
  · subst hc; simpa [AV.gl] using h
  · subst hc; simp [AV.gl.glL, h]
theorem partA_sound {t : TypeId} {sz : Option Nat} {off : Nat} {cs : List AV} {vs : List Value} (hp : (partA sz off cs).1) (h : RdL G w cs vs) (h1 : ∀ u ∈ vs, u.oneCell' = true) (hg : AV.gl.glL c cs) (ht : szT P t = some sz) :
    ∃ v, (part t vs.toArray off).run P w = .ok v w ∧ Rd G w (partA sz off cs).2 v ∧ (partA sz off cs).2.gl c := by
  unfold partA at *
  cases sz with
  | none =>
    simp only at hp ⊢
    have hx : cs[off]? = some (cs.getD off .junk) := by simp [List.getD, List.getElem?_eq_getElem hp]
    obtain ⟨v, hv, hr⟩ := h.get off _ hx
    refine ⟨v, ?_, hr, glL_get hg hx⟩
    simp [part, isAgg_run ht, hv]
  | some n =>
    simp only at hp ⊢
    refine ⟨.agg ((vs.drop off).take n).toArray, ?_, ?_, ?_⟩
    · simp [part, isAgg_run ht, sizeOf_run ht, esz, List.extract_eq_take_drop]
    · simp only [Rd]
      exact ⟨_, rfl, (h.drop off).take n, fun u hu => h1 u (List.mem_of_mem_drop (List.mem_of_mem_take hu))⟩
    · simp only [AV.gl]
      exact glL_take (glL_drop hg)
theorem isAgg_load {t : TypeId} {sz : Option Nat} {b o : Nat} {vs : List Value} {off : Nat} {cs : List AV} (ht : szT P t = some sz) (hp : (partA sz off cs).1) (h : RdL G w cs vs) (h1 : ∀ u ∈ vs, u.oneCell' = true) (hg : AV.gl.glL c cs)
    (hm : HoldsAt w b o vs) : ∃ v, (loadVar t ⟨b, o + off, none⟩).run P w = .ok v w ∧ Rd G w (partA sz off cs).2 v ∧ (partA sz off cs).2.gl c := by
  have hl := h.length
  unfold partA at *
  cases sz with
  | none =>
    simp only at hp ⊢
    have hx : cs[off]? = some (cs.getD off .junk) := by simp [List.getD, List.getElem?_eq_getElem hp]
    obtain ⟨v, hv, hr⟩ := h.get off _ hx
    refine ⟨v, ?_, hr, glL_get hg hx⟩
    simp [loadVar, isAgg_run ht, hm off v hv]
  | some n =>
    simp only at hp ⊢
    refine ⟨.agg ((vs.drop off).take n).toArray, ?_, ?_, ?_⟩
    · have hlen : ((vs.drop off).take n).length = n := by simp; omega
      have := run_loadCells_list (P := P) (w := w) ⟨b, o + off, none⟩ ((vs.drop off).take n) (fun j v hj => by
        have hv : vs[off + j]? = some v := by
          rw [List.getElem?_take] at hj
          split at hj
          · simpa using hj
          · simp at hj
        have := hm _ v hv
        unfold Addr.add
        split
        · rename_i e; subst e; simpa using this
        · simpa [Nat.add_assoc] using this)
      rw [hlen] at this
      simp [loadVar, isAgg_run ht, sizeOf_run ht, esz, this]
    · simp only [Rd]
      exact ⟨_, rfl, (h.drop off).take n, fun u hu => h1 u (List.mem_of_mem_drop (List.mem_of_mem_take hu))⟩
    · simp only [AV.gl]
      exact glL_take (glL_drop hg)
theorem aExt_sound {i : Nat} {x : AV} {vx : Value} (hp : (aExt i x).1) (hx : Rd G w x vx) (hg : x.gl c) :
    ∃ v, (Instr.extract vx i).run P w = .ok v w ∧ Rd G w (aExt i x).2 v ∧ (aExt i x).2.gl c := by
  unfold aExt at *
  split at hp
  · rename_i xs
    simp only [Rd] at hx
    obtain ⟨cs, rfl, hx⟩ := hx
    have hxi : xs[i]? = some (xs.getD i .junk) := by simp [List.getD, List.getElem?_eq_getElem hp]
    obtain ⟨v, hv, hr⟩ := hx.get i _ hxi
    refine ⟨v, by simp [Instr.extract, hv], hr, glL_get (by simpa [AV.gl] using hg) hxi⟩
  · simp [stuckR] at hp
theorem live_ob {M : Nat → Prop} {hp : Hp} (hH : Heap c M G hp w) {id g : Nat} (hl : live hp id g) : ∃ ob nl cells, G.ob id g = some ob ∧ hp id = some (g, .row nl cells) := by
  unfold live at hl
  cases h : hp id with
  | none => rw [h] at hl; simp at hl
  | some q =>
    obtain ⟨g', o⟩ := q
    rw [h] at hl
    simp at hl
    subst hl
    cases o with
    | row nl cells =>
      obtain ⟨ob, h1, _⟩ := hH.row _ _ _ _ h
      exact ⟨ob, nl, cells, h1, rfl⟩
theorem ptr_sound {M : Nat → Prop} {hp : Hp} (hH : Heap c M G hp w) {id g o : Nat} {vx : Value} (hl : live hp id g) (hx : Rd G w (.op id g o) vx) :
    ∃ b, vx = .pointer (some ⟨b, o, none⟩) ∧ G.ob id g = some (some b) ∧ ∃ p, w.shape? b = some p := by
  obtain ⟨ob, nl, cells, h1, _⟩ := live_ob hH hl
  simp only [Rd] at hx
  obtain ⟨b, rfl, h, hs⟩ := hx.2 _ h1
  exact ⟨b, h, h1, hs⟩
theorem rd_op {id g o : Nat} {b : Nat} (h : G.ob id g = some (some b)) (hs : ∃ p, w.shape? b = some p) : Rd G w (.op id g o) (.pointer (some ⟨b, o, none⟩)) := by
  simp only [Rd]
  refine ⟨⟨_, rfl⟩, fun ob hob => ?_⟩
  rw [h] at hob; cases hob
  exact ⟨b, rfl, rfl, hs⟩
theorem op_ptr {id g o : Nat} {vx : Value} (hx : Rd G w (.op id g o) vx) : ∃ b, vx = .pointer (some ⟨b, o, none⟩) := by
  simp only [Rd] at hx
  exact hx.1
theorem rd_op_at {id g o o' b : Nat} (hx : Rd G w (.op id g o) (.pointer (some ⟨b, o, none⟩))) : Rd G w (.op id g o') (.pointer (some ⟨b, o', none⟩)) := by
  simp only [Rd] at hx ⊢
  refine ⟨⟨_, rfl⟩, fun ob hob => ?_⟩
  obtain ⟨b', rfl, h, hs⟩ := hx.2 ob hob
  simp only [Value.pointer.injEq, Option.some.injEq, Addr.mk.injEq, and_true] at h
  exact ⟨b', rfl, by rw [h], hs⟩
theorem aNilc_sound {x : AV} {vx : Value} (h : (aNilc x).1) (hx : Rd G w x vx) (hg : x.gl c) :
    (∃ a, vx = .pointer (some a)) ∧ Rd G w (aNilc x).2 vx ∧ (aNilc x).2.gl c := by
  unfold aNilc at *
  split at h
  · refine ⟨?_, hx, hg⟩
    simp only [Rd] at hx
    obtain ⟨u, b, o', _, rfl, _⟩ := hx
    exact ⟨_, rfl⟩
  · obtain ⟨b, rfl⟩ := op_ptr hx
    exact ⟨⟨_, rfl⟩, hx, hg⟩
  · simp [stuckR] at h
theorem add_mk (b o n : Nat) : (⟨b, o, none⟩ : Addr).add n = ⟨b, o + n, none⟩ := by
  unfold Addr.add
  split
  · rename_i e; subst e; rfl
  · rfl
theorem aFaddr_sound {S : TypeId} {fs : Array Field} {f : Nat} {fd : Field} (hS : P.underlying S = some (.struct fs)) (hf : fs[f]? = some fd) (hz : P.cellsOf fd.type ≠ 0)
    {x : AV} {vx : Value} (h : (aFaddr fd.offset x).1) (hx : Rd G w x vx) (hg : x.gl c) :
    ∃ v, (Instr.fieldAt S vx f).run P w = .ok v w ∧ Rd G w (aFaddr fd.offset x).2 v ∧ (aFaddr fd.offset x).2.gl c := by
  have hs : ∃ n, n ≠ 0 ∧ (sizeOf fd.type).run P w = .ok n w := by
    unfold Program.cellsOf at hz
    cases hi : P.info? fd.type with
    | none => rw [hi] at hz; simp at hz
    | some i => rw [hi] at hz; simp at hz; exact ⟨i.size, hz, by simp [sizeOf, typeInfo, hi]⟩
  obtain ⟨n, hn, hs⟩ := hs
  unfold aFaddr at *
  split at h
  · rename_i y o
    simp only [Rd] at hx
    obtain ⟨u, b, o', h1, rfl, h2, h3⟩ := hx
    refine ⟨.pointer (some ⟨b, o' + (o + fd.offset), none⟩), ?_, ?_, by simpa [AV.gl] using hg⟩
    · simp [Instr.fieldAt, underlying, hS, hf, Instr.sureAddr, fieldPlace, hs, hn, add_mk, Nat.add_assoc]
    · simp only [Rd]
      exact ⟨u, b, o', h1, rfl, h2, h3⟩
  · rename_i id g o
    obtain ⟨b, rfl⟩ := op_ptr hx
    refine ⟨.pointer (some ⟨b, o + fd.offset, none⟩), ?_, rd_op_at hx, by simpa [AV.gl] using hg⟩
    simp [Instr.fieldAt, underlying, hS, hf, Instr.sureAddr, fieldPlace, hs, hn, add_mk]
  · simp [stuckR] at h
theorem aIaddrA_sound {T E : TypeId} {n : Nat} {es : Option Nat} (hT : P.underlying T = some (.array n E)) (hE : szT P E = some es)
    {x i : AV} {vx vi : Value} (h : (aIaddrA n es x i).1) (hx : Rd G w x vx) (hi : Rd G w i vi) (hg : x.gl c) :
    ∃ v, (Instr.indexAt T vx vi).run P w = .ok v w ∧ Rd G w (aIaddrA n es x i).2 v ∧ (aIaddrA n es x i).2.gl c := by
  have hs := sizeOf_run hE w
  unfold aIaddrA at *
  split at h
  · rename_i y o k i
    have hi := hi.sc_inv
    subst hi
    obtain ⟨h0, h1⟩ := h
    simp only [Rd] at hx
    obtain ⟨u, b, o', g1, rfl, g2, g3⟩ := hx
    refine ⟨.pointer (some ⟨b, o' + (o + i.toNat * esz es), none⟩), ?_, ?_, by simpa [AV.gl] using hg⟩
    · simp [Instr.indexAt, underlying, hT, Instr.sureAddr, asIntOf, hs, h0, h1, add_mk, Nat.add_assoc]
    · simp only [Rd]
      exact ⟨u, b, o', g1, rfl, g2, g3⟩
  · rename_i id g o k i
    have hi := hi.sc_inv
    subst hi
    obtain ⟨h0, h1⟩ := h
    obtain ⟨b, rfl⟩ := op_ptr hx
    refine ⟨.pointer (some ⟨b, o + i.toNat * esz es, none⟩), ?_, rd_op_at hx, by simpa [AV.gl] using hg⟩
    simp [Instr.indexAt, underlying, hT, Instr.sureAddr, asIntOf, hs, h0, h1, add_mk]
  · simp [stuckR] at h
theorem spot_mk {a : Addr} (h : a.spot = none) : (⟨a.block, a.off, none⟩ : Addr) = a := by cases a; simp_all
theorem aIaddr_sound {T E : TypeId} {es : Option Nat} (hT : P.underlying T = some (.slice E)) (hE : szT P E = some es)
    {x i : AV} {vx vi : Value} (h : (aIaddr es x i).1) (hx : Rd G w x vx) (hi : Rd G w i vi) (hg : x.gl c) :
    ∃ v, (Instr.indexAt T vx vi).run P w = .ok v w ∧ Rd G w (aIaddr es x i).2 v ∧ (aIaddr es x i).2.gl c := by
  have hs := sizeOf_run hE w
  unfold aIaddr at *
  split at h
  · rename_i nl es' xs k i
    have hi := hi.sc_inv
    subst hi
    obtain ⟨rfl, h0, h1⟩ := h
    simp only [Rd] at hx
    obtain ⟨base, len, cap, vs, rfl, rfl, g2, g3, g4, g5, g6⟩ := hx
    have hlen := g3.length
    have hi' : i.toNat < xs.length := by omega
    have hxi : xs[i.toNat]? = some (xs.getD i.toNat .junk) := by simp [List.getD, List.getElem?_eq_getElem hi']
    obtain ⟨v, hv, hr⟩ := g3.get _ _ hxi
    cases base with
    | none =>
      exfalso
      have := g5 rfl
      omega
    | some a =>
      obtain ⟨k1, k2, k3⟩ := g6 a rfl (fun e => by rw [e] at hv; simp at hv)
      refine ⟨.pointer (some ⟨a.block, a.off + i.toNat * esz es, none⟩), ?_, ?_, ?_⟩
      · have e : i < (vs.length : Int) := by omega
        rw [← spot_mk k1]
        simp [Instr.indexAt, underlying, hT, asIntOf, hs, h0, e, add_mk]
      · simp only [Rd]
        exact ⟨v, a.block, a.off + i.toNat * esz es, hr, by simp, k2, (k3 _ v hv).2⟩
      · simp only [AV.gl] at hg ⊢
        exact glL_get hg hxi
  · rename_i id g es' lo n k i
    have hi := hi.sc_inv
    subst hi
    obtain ⟨rfl, h0, h1⟩ := h
    simp only [Rd] at hx
    obtain ⟨hx1, hx2⟩ := hx
    rcases hx1 with ⟨_, e, _⟩ | ⟨b, cap, o, rfl, q1, q2⟩
    · omega
    · have e : o = lo := by rcases q2 with q2 | q2 <;> omega
      subst e
      refine ⟨.pointer (some ⟨b, o + i.toNat * esz es, none⟩), ?_, ?_, by simpa [AV.gl] using hg⟩
      · simp [Instr.indexAt, underlying, hT, asIntOf, hs, h0, h1, add_mk]
      · simp only [Rd]
        refine ⟨⟨_, rfl⟩, fun ob hob => ?_⟩
        have h := hx2 ob hob
        cases ob with
        | none => obtain ⟨h, _⟩ := h; simp at h
        | some b' =>
          obtain ⟨_, _, _, _, h, _, _, hsh, _⟩ := h
          simp only [Value.slice.injEq, Option.some.injEq, Addr.mk.injEq] at h
          exact ⟨b', rfl, by rw [h.1.1], _, hsh⟩
  · simp [stuckR] at h
end
end Go.Proofs.YtbmmdkbinlnogaaDoor.Aw
