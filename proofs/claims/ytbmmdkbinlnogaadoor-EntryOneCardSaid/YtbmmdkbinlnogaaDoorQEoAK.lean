/- Parts of the proofs of Eo. -/
import Derived.Test.YtbmmdkbinlnogaaDoorQEoAH
namespace Go.Proofs.YtbmmdkbinlnogaaDoor.Aw
open Go Go.MapKept
set_option linter.unusedSimpArgs false
set_option linter.unusedVariables false
section
variable {P : Program} {G : Gh} {w : World} {c : Nat} {M : Nat → Prop} {hp : Hp}
def likeV1 : Value → Value → Prop
  | .int k _, .int k' n => k' = k ∧ k.min ≤ n ∧ n ≤ k.max
  | .string _, .string s => s.size ≤ 9223372036854775807
  | .bool _, .bool _ => True
  | _, _ => False
def likeVL : List Value → List Value → Prop
  | [], [] => True
  | z :: zs, x :: xs => likeV1 z x ∧ likeVL zs xs
  | _, _ => False
def likeV : Value → Value → Prop
  | .agg zs, .agg xs => likeVL zs.toList xs.toList
  | z, x => likeV1 z x
theorem likeVL_length : ∀ {zs xs : List Value}, likeVL zs xs → xs.length = zs.length
  | [], [], _ => rfl
  | z :: zs, x :: xs, h => by simp [likeVL_length h.2]
  | [], _ :: _, h => h.elim
  | _ :: _, [], h => h.elim
theorem likeVL_get : ∀ {zs xs : List Value}, likeVL zs xs → ∀ (i : Nat) (z : Value), zs[i]? = some z → ∃ x, xs[i]? = some x ∧ likeV1 z x
  | [], [], _, i, z, h => by simp at h
  | z :: zs, x :: xs, h, i, y, hy => by
    cases i with
    | zero => simp at hy; subst hy; exact ⟨x, rfl, h.1⟩
    | succ i => simpa using likeVL_get h.2 i y (by simpa using hy)
  | [], _ :: _, h, _, _, _ => h.elim
  | _ :: _, [], h, _, _, _ => h.elim
structure KL (P : Program) (kt : TypeId) (z : Value) : Prop where
  check : ∀ (w : World) (em : Bool) (v : Value), likeV z v → (Instr.checkKey em 10000 kt v).run P w = .ok () w
  find : ∀ (w : World) (x : Value), likeV z x → ∀ es : List MapEntry, (∀ e ∈ es, likeV z e.key) →
    ((Instr.findKey kt x es).run P w = .ok none w ∧ ∀ e ∈ es, e.key ≠ x) ∨ ∃ j e, (Instr.findKey kt x es).run P w = .ok (some (j, e.val)) w ∧ es[j]? = some e ∧ e.key = x
  stays : ∀ (w : World) (v : Value), likeV z v → (Instr.keyThatStays v v).run P w = .ok v w
  eqs : (match P.underlying kt with | some (.array _ _) | some (.struct _) => true | _ => false) = true → ∀ (w : World) (x y : Value), likeV z x → likeV z y → ∃ r : Bool, (Op.equal kt x y).run P w = .ok r w ∧ (r = true ↔ x = y)
theorem KL.basic {kt : TypeId} {z : Value} {d : TypeDesc} (hd : P.underlying kt = some d) (hz : ∀ v, likeV z v → IsKey d v) : KL P kt z where
  check w em v h := run_checkKey hd (hz v h) em 9999
  find w x h es hes := by
    rcases findNow_spec (hz x h) es 0 (fun e he => hz _ (hes e he)) with ⟨h1, h2⟩ | ⟨j, e0, h1, h2, h3⟩
    · exact .inl ⟨run_findKey hd h1, h2⟩
    · exact .inr ⟨j, e0, by simpa using run_findKey hd h1, h2, h3⟩
  stays w v h := run_keyThatStays (hz v h)
  eqs hw w x y h _ := by
    have := hz x h
    rw [hd] at hw
    cases d <;> simp_all [IsKey]
theorem KL.deep {kt : TypeId} {z : Value} (K : WideMaps.KeyLaw P kt) (hE : ∀ (w : World) {x y : Value} {lx ly : Lit}, keyOf P kt x = some lx → keyOf P kt y = some ly → ∃ r : Bool, (Op.equal kt x y).run P w = .ok r w ∧ (r = true ↔ lx = ly)) (hz : ∀ v, likeV z v → ∃ l, keyOf P kt v = some l) : KL P kt z where
  check w em v h := by obtain ⟨l, hl⟩ := hz v h; exact K.check w em hl
  find w x h es hes := by obtain ⟨l, hl⟩ := hz x h; exact K.find w hl es fun e he => hz _ (hes e he)
  stays w v h := by obtain ⟨l, hl⟩ := hz v h; exact K.stays w hl
  eqs _ w x y h1 h2 := by
    obtain ⟨l1, e1⟩ := hz x h1
    obtain ⟨l2, e2⟩ := hz y h2
    obtain ⟨r, hr, hi⟩ := hE w e1 e2
    refine ⟨r, hr, hi.trans ⟨fun e => ?_, fun e => ?_⟩⟩
    · subst e; exact K.inj e1 e2
    · subst e; rw [e1] at e2; cases e2; rfl
theorem lits_plain {e : TypeId} {u v : Value} {D : Nat} (hp : keyZ.plainOf P e u = true) (hl : likeV1 u v) : ∃ l, P.keyLits (D + 1) e [v] = some l := by
  unfold keyZ.plainOf at hp
  split at hp
  · rename_i k k' n hd
    simp at hp
    subst hp
    cases v <;> simp only [likeV1] at hl
    obtain ⟨rfl, h1, h2⟩ := hl
    exact ⟨_, by simp [Program.keyLits, hd, Lit.wf, h1, h2]; rfl⟩
  · rename_i hd
    cases v <;> simp only [likeV1] at hl
    exact ⟨_, by simp [Program.keyLits, hd]; rfl⟩
  · rename_i hd
    cases v <;> simp only [likeV1] at hl
    exact ⟨_, by simp [Program.keyLits, hd, maxLen, hl]; rfl⟩
  · simp at hp
theorem mapM_some {α β : Type} {f : α → Option β} : ∀ {l : List α}, (∀ x ∈ l, ∃ y, f x = some y) → ∃ ys, l.mapM f = some ys
  | [], _ => ⟨[], rfl⟩
  | x :: l, h => by
    obtain ⟨y, hy⟩ := h x (by simp)
    obtain ⟨ys, hys⟩ := mapM_some (l := l) fun z hz => h z (by simp [hz])
    exact ⟨y :: ys, by simp [List.mapM_cons, hy, hys]⟩
theorem take_one {l : List Value} {i : Nat} {v : Value} (h : l[i]? = some v) : (l.drop i).take 1 = [v] := by
  rw [List.getElem?_eq_some_iff] at h
  obtain ⟨hi, rfl⟩ := h
  rw [List.drop_eq_getElem_cons hi]
  rfl
theorem keyZ_law {kt : TypeId} {z : Value} (h : keyZ P kt = some z) : KL P kt z := by
  unfold keyZ at h
  split at h
  · rename_i hc
    simp only [Bool.and_eq_true, decide_eq_true_eq] at hc
    obtain ⟨⟨⟨hsm, hlo⟩, hrow⟩, hkt⟩ := hc
    split at h
    · rename_i k k' n hd _
      split at h
      · rename_i e
        subst e
        cases h
        exact KL.basic hd fun v hv => by cases v <;> simp_all [likeV, likeV1, IsKey]
      · simp at h
    · rename_i hd _
      cases h
      exact KL.basic hd fun v hv => by cases v <;> simp_all [likeV, likeV1, IsKey]
    · rename_i hd _
      cases h
      exact KL.basic hd fun v hv => by cases v <;> simp_all [likeV, likeV1, IsKey]
    · rename_i n e cs hd _
      split at h
      · rename_i hh
        simp only [Bool.and_eq_true, decide_eq_true_eq] at hh
        obtain ⟨⟨⟨h1, h2⟩, h3⟩, h4⟩ := hh
        cases h
        refine KL.deep (deep_law_gate hlo hsm hrow hkt (by rw [hd])) (fun w {_ _ _ _} h1 h2 => run_equal_deep w (m := P.types.size + 1) (by omega) hkt (by rw [hd]) h1 h2) fun v hv => ?_
        cases v <;> simp only [likeV, likeV1] at hv
        rename_i ds
        have hl := likeVL_length hv
        have hsz : ds.size = n := by simpa [h1] using hl
        obtain ⟨T, hT⟩ : ∃ T, P.types.size = T + 1 := ⟨P.types.size - 1, by have h0 : 0 < P.types.size := Nat.lt_of_le_of_lt (Nat.zero_le _) hrow; omega⟩
        have hm : ∃ ys, (List.range n).mapM (fun i => P.keyLits P.types.size e ((ds.toList.drop (i * P.cellsOf e)).take (P.cellsOf e))) = some ys := mapM_some fun i hi => by
          have hi : i < n := by simpa using hi
          obtain ⟨u, hu⟩ : ∃ u, cs.toList[i]? = some u := ⟨_, List.getElem?_eq_getElem (by rw [← hl, Array.length_toList]; omega)⟩
          obtain ⟨x, hx, hux⟩ := likeVL_get hv i u hu
          rw [h2, Nat.mul_one, take_one hx, hT]
          exact lits_plain (List.all_eq_true.1 h4 u (List.mem_of_getElem? hu)) hux
        obtain ⟨ys, hys⟩ := hm
        unfold keyOf
        rw [hd]
        simp only [hkt, Value.formed, hd, Bool.true_and, Value.cells]
        rw [if_pos (by simp [hsz, h3])]
        have hq : P.keyLits (P.types.size + 1) kt ds.toList = some ys.flatten := by
          unfold Program.keyLits
          simp only [hd]
          rw [if_pos (by simp [hsz, h3]), hys]
          rfl
        exact ⟨.string (keyBytes ys.flatten), by rw [hq]; rfl⟩
      · simp at h
    · rename_i fs cs hd _
      split at h
      · rename_i hh
        simp only [Bool.and_eq_true, decide_eq_true_eq, beq_iff_eq] at hh
        obtain ⟨⟨⟨⟨h1, h2⟩, h3⟩, h4⟩, h5⟩ := hh
        cases h
        refine KL.deep (deep_law_gate hlo hsm hrow hkt (by rw [hd])) (fun w {_ _ _ _} h1 h2 => run_equal_deep w (m := P.types.size + 1) (by omega) hkt (by rw [hd]) h1 h2) fun v hv => ?_
        cases v <;> simp only [likeV, likeV1] at hv
        rename_i ds
        have hl := likeVL_length hv
        have hsz : ds.size = fs.size := by simpa [h1] using hl
        obtain ⟨T, hT⟩ : ∃ T, P.types.size = T + 1 := ⟨P.types.size - 1, by have h0 : 0 < P.types.size := Nat.lt_of_le_of_lt (Nat.zero_le _) hrow; omega⟩
        have hnm : fs.all (·.name != "_") = true := by
          rw [Array.all_eq_true_iff_forall_mem]
          intro f hf
          have := List.all_eq_true.1 h4 f (by simpa using hf)
          simp only [Bool.and_eq_true] at this
          exact this.2
        have hm : ∃ ys, fs.toList.mapM (fun f => P.keyLits P.types.size f.type ((ds.toList.drop f.offset).take (P.cellsOf f.type))) = some ys := mapM_some fun f hf => by
          obtain ⟨i, hi, rfl⟩ := List.mem_iff_getElem.1 hf
          have hi' : i < fs.size := by simpa using hi
          have ho : fs.toList[i].offset = i := by
            have := congrArg (fun l => l[i]?) h3
            simp only [List.getElem?_map, List.getElem?_eq_getElem hi, Option.map_some] at this
            rw [List.getElem?_eq_getElem (by simpa using hi')] at this
            simpa using this
          have hc1 := List.all_eq_true.1 h4 _ hf
          simp only [Bool.and_eq_true, decide_eq_true_eq] at hc1
          obtain ⟨u, hu⟩ : ∃ u, cs.toList[i]? = some u := ⟨_, List.getElem?_eq_getElem (by rw [← hl, Array.length_toList]; omega)⟩
          obtain ⟨x, hx, hux⟩ := likeVL_get hv i u hu
          rw [hc1.1, ho, take_one hx, hT]
          refine lits_plain (List.all_eq_true.1 h5 (fs.toList[i], u) ?_) hux
          refine List.mem_of_getElem? (i := i) ?_
          rw [List.getElem?_zip_eq_some]
          exact ⟨List.getElem?_eq_getElem hi, hu⟩
        obtain ⟨ys, hys⟩ := hm
        unfold keyOf
        rw [hd]
        simp only [hkt, Value.formed, hd, Bool.true_and, Value.cells]
        rw [if_pos (by simp [hsz, h2])]
        have hq : P.keyLits (P.types.size + 1) kt ds.toList = some ys.flatten := by
          unfold Program.keyLits
          simp only [hd]
          rw [if_pos ⟨by simp [hsz, h2], hnm⟩, hys]
          rfl
        exact ⟨.string (keyBytes ys.flatten), by rw [hq]; rfl⟩
      · simp at h
    · simp at h
  · simp at h
theorem likeA1_det {z v : Value} {k : AV} (h : likeA1 z k) (hr : Rd G w k v) : k = .sc v ∧ likeV1 z v := by
  unfold likeA1 at h
  split at h
  · have := hr.sc_inv; subst this; exact ⟨rfl, h⟩
  · have := hr.sc_inv; subst this; exact ⟨rfl, h⟩
  · have := hr.sc_inv; subst this; exact ⟨rfl, trivial⟩
  · exact h.elim
theorem likeAL_det : ∀ {zs : List Value} {ks : List AV} {vs : List Value}, likeAL zs ks → RdL G w ks vs → ks = vs.map .sc ∧ likeVL zs vs
  | [], [], vs, _, hr => by simp only [RdL] at hr; subst hr; exact ⟨rfl, trivial⟩
  | z :: zs, k :: ks, vs, h, hr => by
    simp only [RdL] at hr
    obtain ⟨v, r, rfl, h1, h2⟩ := hr
    obtain ⟨rfl, a⟩ := likeA1_det h.1 h1
    obtain ⟨e, b⟩ := likeAL_det h.2 h2
    exact ⟨by rw [e]; rfl, a, b⟩
  | [], _ :: _, _, h, _ => h.elim
  | _ :: _, [], _, h, _ => h.elim
def absK : Value → AV
  | .agg cs => .agg (cs.toList.map .sc)
  | v => .sc v
theorem likeA_det {z v : Value} {k : AV} (h : likeA z k) (hr : Rd G w k v) : k = absK v ∧ likeV z v := by
  unfold likeA at h
  split at h
  · rename_i zs xs
    simp only [Rd] at hr
    obtain ⟨cs, rfl, hr, -⟩ := hr
    obtain ⟨rfl, h2⟩ := likeAL_det h hr
    exact ⟨rfl, by simpa [likeV] using h2⟩
  · rename_i hn
    obtain ⟨rfl, h2⟩ := likeA1_det h hr
    cases v <;> first | exact ⟨rfl, by unfold likeV; split <;> simp_all⟩ | (cases z <;> simp [likeV1] at h2)
theorem absK_inj {z a b : Value} (ha : likeV z a) (hb : likeV z b) (h : absK a = absK b) : a = b := by
  cases a <;> cases b <;> simp_all [absK]
  rename_i x y
  have : x.toList = y.toList := (List.map_inj_right (fun _ _ e => by cases e; rfl)).1 h
  exact Array.toList_inj.1 this
def pairV (e : MapEntry) : Value := .tuple #[e.key, e.val]
theorem ents_cons {z : Value} {a : AV} {es : List AV} (h : entsOk z (a :: es)) : ∃ k v, a = .tup [k, v] ∧ likeA z k ∧ entsOk z es := by
  unfold entsOk at h
  split at h
  · simp at *
  · rename_i e; cases e; exact ⟨_, _, rfl, h.1, h.2⟩
  · exact h.elim
theorem rd_pair {k v : AV} {x : Value} (h : Rd G w (.tup [k, v]) x) : ∃ a b, x = .tuple #[a, b] ∧ Rd G w k a ∧ Rd G w v b := by
  simp only [Rd, RdL] at h
  obtain ⟨cs, rfl, a, r, rfl, h1, b, r', rfl, h2, rfl⟩ := h
  exact ⟨a, b, rfl, h1, h2⟩
theorem rd_pair_mk {k v : AV} {a b : Value} (h1 : Rd G w k a) (h2 : Rd G w v b) : Rd G w (.tup [k, v]) (.tuple #[a, b]) := by
  simp only [Rd, RdL]
  exact ⟨[a, b], rfl, a, [b], rfl, h1, b, [], rfl, h2, rfl⟩
theorem ents_like {z : Value} : ∀ {es : List AV} {ents : List MapEntry}, entsOk z es → RdL G w es (ents.map pairV) → ∀ e ∈ ents, likeV z e.key
  | [], ents, _, hr, e, he => by
    simp only [RdL, List.map_eq_nil_iff] at hr; subst hr; simp at he
  | a :: es, ents, h, hr, e, he => by
    obtain ⟨k, v, rfl, hk, hes⟩ := ents_cons h
    simp only [RdL] at hr
    obtain ⟨x, r, hx, h1, h2⟩ := hr
    cases ents with
    | nil => simp at hx
    | cons e0 ents =>
      simp only [List.map_cons, List.cons.injEq] at hx
      obtain ⟨rfl, rfl⟩ := hx
      obtain ⟨p, q, hpq, r1, r2⟩ := rd_pair h1
      simp only [pairV, Value.tuple.injEq, Array.mk.injEq, List.cons.injEq, and_true] at hpq
      obtain ⟨rfl, rfl⟩ := hpq
      rcases List.mem_cons.1 he with rfl | he
      · exact (likeA_det hk r1).2
      · exact ents_like hes h2 e he
theorem find_none {z kv : Value} {k : AV} (hk : likeA z k) (hr : Rd G w k kv) : ∀ {es : List AV} {ents : List MapEntry}, entsOk z es → RdL G w es (ents.map pairV) → (∀ e ∈ ents, e.key ≠ kv) →
    mfind k es = none ∧ (∀ v, mput k v es = es ++ [.tup [k, v]]) ∧ mcut k es = es
  | [], ents, _, _, _ => ⟨rfl, fun _ => rfl, rfl⟩
  | a :: es, ents, h, hrd, hne => by
    obtain ⟨k', v', rfl, hk', hes⟩ := ents_cons h
    simp only [RdL] at hrd
    obtain ⟨x, r, hx, h1, h2⟩ := hrd
    cases ents with
    | nil => simp at hx
    | cons e0 ents =>
      simp only [List.map_cons, List.cons.injEq] at hx
      obtain ⟨rfl, rfl⟩ := hx
      obtain ⟨p, q, hpq, r1, r2⟩ := rd_pair h1
      simp only [pairV, Value.tuple.injEq, Array.mk.injEq, List.cons.injEq, and_true] at hpq
      obtain ⟨rfl, rfl⟩ := hpq
      have hn : k ≠ k' := fun e => by
        subst e
        have a1 := likeA_det hk hr
        have a2 := likeA_det hk' r1
        exact hne e0 (by simp) (absK_inj a2.2 a1.2 (a2.1.symm.trans a1.1))
      obtain ⟨i1, i2, i3⟩ := find_none hk hr hes h2 fun e he => hne e (by simp [he])
      refine ⟨?_, fun v => ?_, ?_⟩
      · rw [mfind, if_neg hn, i1]
      · rw [mput, if_neg hn, i2]; rfl
      · rw [mcut, if_neg hn, i3]
theorem find_some {z kv : Value} {k : AV} (hk : likeA z k) (hr : Rd G w k kv) : ∀ {es : List AV} {ents : List MapEntry} {j : Nat} {e : MapEntry}, entsOk z es → RdL G w es (ents.map pairV) → ents.Pairwise (fun x y => x.key ≠ y.key) → ents[j]? = some e → e.key = kv →
    (∃ x, mfind k es = some x ∧ Rd G w x e.val ∧ ∀ c, AV.gl.glL c es → x.gl c) ∧
    (∀ v vv (f : MapEntry → MapEntry), (f e).key = kv → (f e).val = vv → Rd G w v vv → RdL G w (mput k v es) ((ents.modify j f).map pairV)) ∧ RdL G w (mcut k es) ((ents.eraseIdx j).map pairV)
  | [], ents, j, e, _, hrd, _, hj, _ => by
    simp only [RdL, List.map_eq_nil_iff] at hrd; subst hrd; simp at hj
  | a :: es, ents, j, e, h, hrd, hp, hj, he => by
    obtain ⟨k', v', rfl, hk', hes⟩ := ents_cons h
    have hrd0 := hrd
    simp only [RdL] at hrd
    obtain ⟨x, r, hx, h1, h2⟩ := hrd
    cases ents with
    | nil => simp at hx
    | cons e0 ents =>
      simp only [List.map_cons, List.cons.injEq] at hx
      obtain ⟨rfl, rfl⟩ := hx
      obtain ⟨p, q, hpq, r1, r2⟩ := rd_pair h1
      simp only [pairV, Value.tuple.injEq, Array.mk.injEq, List.cons.injEq, and_true] at hpq
      obtain ⟨rfl, rfl⟩ := hpq
      have a1 := likeA_det hk hr
      have a2 := likeA_det hk' r1
      rw [List.pairwise_cons] at hp
      cases j with
      | zero =>
        simp at hj
        subst hj
        have ek : k = k' := by rw [a1.1, a2.1, he]
        subst ek
        refine ⟨⟨v', by rw [mfind, if_pos rfl], r2, fun c hg => ?_⟩, fun v vv f hf1 hf2 hv => ?_, ?_⟩
        · simp only [AV.gl.glL, AV.gl] at hg; exact hg.1.2.1
        · rw [mput, if_pos rfl]
          simp only [List.modify_zero_cons, List.map_cons, RdL]
          exact ⟨_, _, rfl, by rw [pairV, hf1, hf2, ← he]; exact rd_pair_mk r1 hv, h2⟩
        · rw [mcut, if_pos rfl]
          simpa using h2
      | succ j =>
        simp at hj
        have hn : k ≠ k' := fun ek => by
          subst ek
          have : e0.key = kv := absK_inj a2.2 a1.2 (a2.1.symm.trans a1.1)
          exact hp.1 e (List.mem_of_getElem? hj) (by rw [this, he])
        obtain ⟨⟨x, i1, i2, i4⟩, i3, i5⟩ := find_some hk hr hes h2 hp.2 hj he
        refine ⟨⟨x, by rw [mfind, if_neg hn, i1], i2, fun c hg => ?_⟩, fun v vv f hf1 hf2 hv => ?_, ?_⟩
        · simp only [AV.gl.glL] at hg; exact i4 c hg.2
        · rw [mput, if_neg hn]
          simp only [List.modify_succ_cons, List.map_cons, RdL]
          exact ⟨_, _, rfl, h1, i3 v vv f hf1 hf2 hv⟩
        · rw [mcut, if_neg hn]
          simp only [List.eraseIdx_cons_succ, List.map_cons, RdL]
          exact ⟨_, _, rfl, h1, i5⟩
theorem gl_mput {k v : AV} {c : Nat} (hk : k.gl c) (hv : v.gl c) : ∀ {es : List AV}, AV.gl.glL c es → AV.gl.glL c (mput k v es)
  | [], _ => by simp only [mput, AV.gl.glL, AV.gl]; exact ⟨⟨hk, hv, trivial⟩, trivial⟩
  | a :: es, h => by
    unfold mput
    split
    · rename_i e
      cases e
      simp only [AV.gl.glL, AV.gl] at h
      split
      · simp only [AV.gl.glL, AV.gl]; exact ⟨⟨h.1.1, hv, trivial⟩, h.2⟩
      · simp only [AV.gl.glL, AV.gl]; exact ⟨h.1, gl_mput hk hv h.2⟩
    · simp only [AV.gl.glL, AV.gl]; exact ⟨⟨hk, hv, trivial⟩, trivial⟩
theorem gl_mcut {k : AV} {c : Nat} : ∀ {es : List AV}, AV.gl.glL c es → AV.gl.glL c (mcut k es)
  | [], _ => by simp [mcut, AV.gl.glL]
  | a :: es, h => by
    unfold mcut
    split
    · rename_i e
      cases e
      simp only [AV.gl.glL] at h
      split
      · exact h.2
      · simp only [AV.gl.glL]; exact ⟨h.1, gl_mcut h.2⟩
    · simp [AV.gl.glL]
theorem run_lookup {T kt E : TypeId} {i : TypeInfo} {z zv kv : Value} {b ck : Nat} {es : Array MapEntry} (hT : P.underlying T = some (.map kt E)) (K : KL P kt z) (hi : P.info? E = some i) (hz : i.zero = some zv) (hb : w.heap[b]? = some (.map es ck))
    (hk : likeV z kv) (hes : ∀ e ∈ es.toList, likeV z e.key) (ok : Bool) :
    ((Instr.lookup T (.map (some b)) kv ok).run P w = .ok (if ok then .tuple #[zv, .bool false] else zv) w ∧ ∀ e ∈ es.toList, e.key ≠ kv) ∨
      ∃ (j : Nat) (e : MapEntry), (Instr.lookup T (.map (some b)) kv ok).run P w = .ok (if ok then .tuple #[e.val, .bool true] else e.val) w ∧ es.toList[j]? = some e ∧ e.key = kv := by
  rcases K.find w kv hk es.toList hes with ⟨h1, h2⟩ | ⟨j, e, h1, h2, h3⟩
  · refine .inl ⟨?_, h2⟩
    simp [Instr.lookup, run_underlying hT, MapKept.run_getObj_map hb, K.check w _ kv hk, h1, zeroValue, typeInfo, hi, hz, Result.andThen]
  · refine .inr ⟨j, e, ?_, h2, h3⟩
    simp [Instr.lookup, run_underlying hT, MapKept.run_getObj_map hb, K.check w _ kv hk, h1, Result.andThen]
theorem run_lookup_nil {T kt E : TypeId} {i : TypeInfo} {z zv kv : Value} (hT : P.underlying T = some (.map kt E)) (K : KL P kt z) (hi : P.info? E = some i) (hz : i.zero = some zv) (hk : likeV z kv) (ok : Bool) :
    (Instr.lookup T (.map none) kv ok).run P w = .ok (if ok then .tuple #[zv, .bool false] else zv) w := by
  rcases K.find w kv hk [] (by simp) with ⟨h1, h2⟩ | ⟨j, e, h1, h2, h3⟩
  · simp [Instr.lookup, run_underlying hT, K.check w _ kv hk, h1, zeroValue, typeInfo, hi, hz, Result.andThen]
  · simp at h2
theorem rd_zero {zv : Value} (h : zv.cells.toList.all Value.oneCell' = true) : Rd G w (zeroA zv) zv ∧ ∀ c, (zeroA zv).gl c := by
  cases zv with
  | agg cs =>
    simp only [zeroA, Rd]
    exact ⟨⟨cs.toList, rfl, rdL_sc _, fun u hu => List.all_eq_true.1 h u hu⟩, fun c => by simp only [AV.gl]; exact glL_sc _⟩
  | _ => exact ⟨by simp [zeroA, Rd], fun c => by simp [zeroA, AV.gl]⟩
theorem map_sound (hH : Heap c M G hp w) {x : AV} {vx : Value} (h : (mapA hp x).1) (hx : Rd G w x vx) :
    (vx = .map none ∧ (mapA hp x).2 = []) ∨ ∃ b es ck, vx = .map (some b) ∧ w.heap[b]? = some (.map es ck) ∧ RdL G w (mapA hp x).2 (es.toList.map pairV) ∧ es.toList.Pairwise (fun x y => x.key ≠ y.key) ∧ AV.gl.glL c (mapA hp x).2 ∧ M b ∧
      ∃ id g, x = .mp id g ∧ G.ob id g = some (some b) ∧ hp id = some (g, .row false [.tup (mapA hp x).2]) := by
  unfold mapA at *
  split at h
  · rename_i id g
    split at h
    · rename_i g' es hid
      subst h
      refine .inr ?_
      obtain ⟨ob, h1, h2, h3, h4⟩ := hH.row _ _ _ _ hid
      simp only [Rd] at hx
      obtain ⟨b, rfl, rfl⟩ := hx.2 _ h1
      obtain ⟨_, hM, vs, k1, k2⟩ := h4 b rfl
      simp only [RdL, Rd] at k1
      obtain ⟨v, r, rfl, ⟨us, rfl, hu⟩, rfl⟩ := k1
      rcases k2 with ⟨_, _, _, _, k⟩ | ⟨ents, ck, k3, k4, k5⟩
      · have := k _ (List.mem_singleton_self _)
        simp [Value.oneCell'] at this
      · simp only [blkV, List.cons.injEq, and_true, Value.tuple.injEq, reduceCtorEq, or_false] at k4
        have hus : us = ents.toList.map pairV := by
          have := congrArg Array.toList k4
          rw [List.toList_toArray, List.toList_toArray] at this
          exact this
        subst hus
        have hgl := (hH.gl _ _ _ _ hid).2
        simp only [AV.gl.glL, AV.gl] at hgl
        exact ⟨b, ents, ck, rfl, k3, hu, k5, hgl.1, hM, id, g', rfl, h1, hid⟩
    · exact absurd h (by simp)
  · exact .inl ⟨hx.sc_inv, rfl⟩
  · exact absurd h (by simp)
theorem aMget_sound {T kt E : TypeId} {i : TypeInfo} {z zv : Value} {ok : Bool} (hT : P.underlying T = some (.map kt E)) (hz : keyZ P kt = some z) (hi : P.info? E = some i) (hzv : i.zero = some zv) (h1c : zv.cells.toList.all Value.oneCell' = true)
    (hH : Heap c M G hp w) {x k : AV} {vx vk : Value} (h : (aMget ok z zv x k hp).1) (hx : Rd G w x vx) (hk : Rd G w k vk) :
    ∃ v, (Instr.lookup T vx vk ok).run P w = .ok v w ∧ Rd G w (aMget ok z zv x k hp).2 v ∧ (aMget ok z zv x k hp).2.gl c := by
  have K := keyZ_law hz
  obtain ⟨hm, he, hl⟩ := h
  obtain ⟨hk1, hk2⟩ := likeA_det hl hk
  obtain ⟨z1, z2⟩ := rd_zero (G := G) (w := w) h1c
  have fin : ∀ (a : AV) (av : Value) (f : Bool), Rd G w a av → a.gl c → Rd G w (if ok then .tup [a, boo f] else a) (if ok then .tuple #[av, .bool f] else av) ∧ (if ok then AV.tup [a, boo f] else a).gl c := fun a av f r g => by
    cases ok with
    | false => exact ⟨r, g⟩
    | true => exact ⟨rd_pair_mk r rd_boo, by simp only [if_true, AV.gl, AV.gl.glL]; exact ⟨g, gl_boo, trivial⟩⟩
  simp only [aMget]
  rcases map_sound hH hm hx with ⟨rfl, e⟩ | ⟨b, es, ck, rfl, hb, hr, hp2, hg, -⟩
  · rw [e]
    exact ⟨_, run_lookup_nil hT K hi hzv hk2 ok, fin _ _ false z1 (z2 c)⟩
  · rcases run_lookup hT K hi hzv hb hk2 (ents_like he hr) ok with ⟨r1, r2⟩ | ⟨j, e, r1, r2, r3⟩
    · have q := find_none hl hk he hr r2
      rw [q.1]
      exact ⟨_, r1, fin _ _ false z1 (z2 c)⟩
    · obtain ⟨⟨y, q1, q2, q3⟩, -⟩ := find_some hl hk he hr hp2 r2 r3
      rw [q1]
      exact ⟨_, r1, fin _ _ true q2 (q3 c hg)⟩
theorem aMlen_sound {T kt E ty : TypeId} (hT : P.underlying T = some (.map kt E)) (hH : Heap c M G hp w) {x : AV} {vx : Value} (h : (aMlen x hp).1) (hx : Rd G w x vx) :
    ∃ v, (Builtin.len_ #[T] ty #[vx]).run P w = .ok v w ∧ Rd G w (aMlen x hp).2 v ∧ (aMlen x hp).2.gl c := by
  simp only [aMlen] at *
  rcases map_sound hH h hx with ⟨rfl, e⟩ | ⟨b, es, ck, rfl, hb, hr, hp2, hg, -⟩
  · rw [e]
    exact ⟨goInt 0, by simp [Builtin.len_, run_underlying hT, Result.andThen], by simp [int, Rd, goInt], gl_int⟩
  · refine ⟨goInt es.size, by simp [Builtin.len_, run_underlying hT, MapKept.run_getObj_map hb, Result.andThen], ?_, gl_int⟩
    have := hr.length
    simp only [List.length_map, Array.length_toList] at this
    simp only [int, Rd, goInt, this]
theorem res_map (hH : Heap c M G hp w) {id g b ck ck' : Nat} (hob : G.ob id g = some (some b)) {ents ents' : Array MapEntry} (hb : w.heap[b]? = some (.map ents ck)) (hMb : M b) {es : List AV} (hr : RdL G w es (ents'.toList.map pairV)) (hgl : AV.gl.glL c es)
    (hp' : ents'.toList.Pairwise fun x y => x.key ≠ y.key) {r : AV} {x : Value} (hx : ∀ G' w', Rd G' w' r x) (hgr : r.gl c) :
    Res c M G w r (updH hp id (some (g, .row false [.tup es]))) c x { w with heap := w.heap.setIfInBounds b (.map ents' ck') } := by
  obtain ⟨s1, s2⟩ := heap_set (o' := .map ents' ck') hb
  have hsz : (w.heap.setIfInBounds b (Obj.map ents' ck')).size = w.heap.size := by simp
  obtain ⟨hE, hH'⟩ := heap_putB (w' := { w with heap := w.heap.setIfInBounds b (.map ents' ck') }) hH (id := id) (g := g) (nb := b) (c' := c) (cells := [.tup es]) (vs := [blkV ents'.toList]) (by simp) (fun b' _ hne => s2 b' hne)
    (fun p hp => by simp [World.shape?, hb] at hp) (.inr ⟨g, hob⟩) hMb (.inr ⟨ents', ck', s1, .inl rfl, hp'⟩) (.inr ⟨hob, rfl⟩) (by
      simp only [RdL, Rd]
      exact ⟨_, [], rfl, ⟨ents'.toList.map pairV, by simp only [blkV]; rfl, hr⟩, rfl⟩) (by simp only [AV.gl.glL, AV.gl]; exact ⟨hgl, trivial⟩)
  exact ⟨_, hE, hH', hx _ _, hgr, Nat.le_refl _, ⟨rfl, rfl, rfl, by simp, fun k _ hk => s2 k (fun e => hk (e ▸ hMb))⟩, fun _ h => .inl h⟩
theorem modify_toList {es : Array MapEntry} {j : Nat} {f : MapEntry → MapEntry} : (es.modify j f).toList = es.toList.modify j f := by simp
theorem mkm_sound {T : TypeId} {r : Option Value} (hr : r = none ∨ ∃ k n kt E, r = some (.int k n) ∧ P.underlying T = some (.map kt E)) (hH : Heap c M G hp w) (hM : ∀ b, w.heap.size ≤ b → M b) (d : Nat) :
    ∃ v w', (Instr.makeMap T r).run P w = .ok v w' ∧ Res c M G w (.mp d c) (updH hp d (some (c, .row false [.tup []]))) (c + 1) v w' := by
  refine ⟨.map (some w.heap.size), w.alloc (.map #[] 0), ?_, ?_⟩
  · rcases hr with rfl | ⟨k, n, kt, E, rfl, hT⟩
    · simp [Instr.makeMap, Result.andThen]
    · simp [Instr.makeMap, run_underlying hT, asInt, asIntOf, Result.andThen]
  · have hk := alloc_keep w (.map #[] 0)
    obtain ⟨hE, hH'⟩ := heap_putB (w' := w.alloc (.map #[] 0)) hH (id := d) (g := c) (nb := w.heap.size) (c' := c + 1) (cells := [.tup []]) (vs := [blkV []]) (by rw [alloc_size]; omega) (fun b hb hne => hk.block b hb (fun h => h))
      (fun p hp => by have := lt_of_shape hp; omega) (.inl (Nat.le_refl _)) (hM _ (Nat.le_refl _)) (.inr ⟨#[], 0, alloc_get _ _, .inl rfl, by simp⟩) (.inl ⟨rfl, rfl⟩) (by
        simp only [RdL, Rd]
        exact ⟨_, [], rfl, ⟨[], rfl, rfl⟩, rfl⟩) (by simp [AV.gl.glL, AV.gl])
    refine ⟨_, hE, hH', ?_, by simp [AV.gl], by omega, hk.mono (Nat.le_refl _) (fun _ _ h => h.elim), fun _ h => .inl h⟩
    simp only [Rd]
    refine ⟨⟨_, rfl⟩, fun ob hob => ?_⟩
    rw [putG_at] at hob; cases hob
    exact ⟨_, rfl, rfl⟩
theorem aMset_sound {T kt E : TypeId} {z : Value} (hT : P.underlying T = some (.map kt E)) (hz : keyZ P kt = some z) (hH : Heap c M G hp w) {x k v : AV} {vx vk vv : Value} (h : (aMset z x k v hp c).1) (hx : Rd G w x vx) (hk : Rd G w k vk) (hv : Rd G w v vv) (gk : k.gl c) (gv : v.gl c) :
    ∃ w', (Instr.mapUpdate T vx vk vv).run P w = .ok () w' ∧ Res c M G w (aMset z x k v hp c).2.1 (aMset z x k v hp c).2.2.1 (aMset z x k v hp c).2.2.2 (.tuple #[]) w' := by
  have K := keyZ_law hz
  have hmm : (mapA hp x).1 ∧ entsOk z (mapA hp x).2 ∧ likeA z k ∧ ∃ id g, x = .mp id g ∧ aMset z x k v hp c = (True, .junk, updH hp id (some (g, .row false [.tup (mput k v (mapA hp x).2)])), c) := by
    unfold aMset at h ⊢
    split at h
    · rename_i id g
      split at h
      · rename_i g' es hid
        obtain ⟨rfl, h1, h2⟩ := h
        have hm : mapA hp (.mp id g') = (True, es) := by simp only [mapA, hid]
        rw [hm]
        exact ⟨trivial, h1, h2, id, g', rfl, by simp [hid, h1, h2]⟩
      · exact absurd h (by simp)
    · exact absurd h (by simp)
  obtain ⟨hm, he, hl, id, g, rfl, hset⟩ := hmm
  · obtain ⟨hk1, hk2⟩ := likeA_det hl hk
    rcases map_sound hH hm hx with ⟨rfl, e⟩ | ⟨b, ents, ck, rfl, hb, hr, hp2, hg, hMb, id', g', e1, hob, -⟩
    · simp [Rd] at hx
    · cases e1
      rw [hset]
      have hes := ents_like he hr
      rcases K.find w vk hk2 ents.toList hes with ⟨h1, h2⟩ | ⟨j, e, h1, h2, h3⟩
      · have q := find_none hl hk he hr h2
        refine ⟨_, by simp [Instr.mapUpdate, run_underlying hT, MapKept.run_getObj_map hb, K.check w _ vk hk2, h1, MapKept.run_setObj_map _ hb, Result.andThen]; rfl, ?_⟩
        simp only
        rw [q.2.1]
        refine res_map hH hob hb hMb ?_ ?_ ?_ (fun _ _ => by simp [Rd]) (by simp [AV.gl])
        · rw [Array.toList_push, List.map_append]
          refine hr.append ?_
          simp only [List.map_cons, List.map_nil, RdL]
          exact ⟨_, [], rfl, rd_pair_mk hk hv, rfl⟩
        · exact glL_append hg (by simp only [AV.gl.glL, AV.gl]; exact ⟨⟨gk, gv, trivial⟩, trivial⟩)
        · rw [Array.toList_push, List.pairwise_append]
          exact ⟨hp2, by simp, fun a ha b hb => by simp only [List.mem_singleton] at hb; subst hb; exact h2 a ha⟩
      · have hj : ents[j]? = some e := by simpa using h2
        obtain ⟨-, q2, -⟩ := find_some hl hk he hr hp2 h2 h3
        refine ⟨_, by simp [Instr.mapUpdate, run_underlying hT, MapKept.run_getObj_map hb, K.check w _ vk hk2, h1, hj, h3, K.stays w vk hk2, MapKept.run_setObj_map _ hb, Result.andThen]; rfl, ?_⟩
        refine res_map hH hob hb hMb ?_ (gl_mput gk gv hg) ?_ (fun _ _ => by simp [Rd]) (by simp [AV.gl])
        · rw [modify_toList]
          exact q2 v vv _ rfl rfl hv
        · rw [modify_toList]
          have hkeys : (ents.toList.modify j fun e => { e with key := vk, val := vv }).map (·.key) = ents.toList.map (·.key) := by
            have := modify_keys (es := ents) j (fun e => { e with key := vk, val := vv }) fun e' he' => by rw [hj] at he'; cases he'; exact h3.symm
            rwa [modify_toList] at this
          have : ((ents.toList.modify j fun e => { e with key := vk, val := vv }).map (·.key)).Pairwise (· ≠ ·) := by rw [hkeys, List.pairwise_map]; exact hp2
          rwa [List.pairwise_map] at this
theorem aMdel_sound {T kt E ty : TypeId} {Ts : Array TypeId} {z : Value} (hT : P.underlying T = some (.map kt E)) (hTs : Ts[0]? = some T) (hz : keyZ P kt = some z) (hH : Heap c M G hp w) {x k : AV} {vx vk : Value} (h : (aMdel z x k hp c).1) (hx : Rd G w x vx) (hk : Rd G w k vk) :
    ∃ v w', (Builtin.delete_ Ts ty #[vx, vk]).run P w = .ok v w' ∧ Res c M G w (aMdel z x k hp c).2.1 (aMdel z x k hp c).2.2.1 (aMdel z x k hp c).2.2.2 v w' := by
  have K := keyZ_law hz
  have hmm : (mapA hp x).1 ∧ entsOk z (mapA hp x).2 ∧ likeA z k ∧ ∃ id g, x = .mp id g ∧ aMdel z x k hp c = (True, .tup [], updH hp id (some (g, .row false [.tup (mcut k (mapA hp x).2)])), c) := by
    unfold aMdel at h ⊢
    split at h
    · rename_i id g
      split at h
      · rename_i g' es hid
        obtain ⟨rfl, h1, h2⟩ := h
        have hm : mapA hp (.mp id g') = (True, es) := by simp only [mapA, hid]
        rw [hm]
        exact ⟨trivial, h1, h2, id, g', rfl, by simp [hid, h1, h2]⟩
      · exact absurd h (by simp)
    · exact absurd h (by simp)
  obtain ⟨hm, he, hl, id, g, rfl, hset⟩ := hmm
  obtain ⟨hk1, hk2⟩ := likeA_det hl hk
  have hres : ∀ G' w', Rd G' w' (.tup []) (.tuple #[]) := fun _ _ => by simp only [Rd, RdL]; exact ⟨[], rfl, rfl⟩
  rcases map_sound hH hm hx with ⟨rfl, e⟩ | ⟨b, ents, ck, rfl, hb, hr, hp2, hg, hMb, id', g', e1, hob, -⟩
  · simp [Rd] at hx
  · cases e1
    rw [hset]
    have hes := ents_like he hr
    rcases K.find w vk hk2 ents.toList hes with ⟨h1, h2⟩ | ⟨j, e, h1, h2, h3⟩
    · have q := find_none hl hk he hr h2
      refine ⟨.tuple #[], _, by simp [Builtin.delete_, hTs, run_underlying hT, MapKept.run_getObj_map hb, K.check w _ vk hk2, h1, MapKept.run_setObj_map _ hb, Result.andThen]; rfl, ?_⟩
      simp only
      rw [q.2.2]
      exact res_map hH hob hb hMb hr hg hp2 hres (by simp [AV.gl, AV.gl.glL])
    · obtain ⟨-, -, q3⟩ := find_some hl hk he hr hp2 h2 h3
      have hj : j < ents.size := by have := (List.getElem?_eq_some_iff.1 h2).1; simpa using this
      refine ⟨.tuple #[], _, by simp [Builtin.delete_, hTs, run_underlying hT, MapKept.run_getObj_map hb, K.check w _ vk hk2, h1, MapKept.run_setObj_map _ hb, Result.andThen]; rfl, ?_⟩
      have ht : (ents.eraseIdxIfInBounds j).toList = ents.toList.eraseIdx j := by
        unfold Array.eraseIdxIfInBounds
        rw [dif_pos hj]
        simp
      refine res_map hH hob hb hMb ?_ (gl_mcut hg) ?_ hres (by simp [AV.gl, AV.gl.glL])
      · rw [ht]; exact q3
      · rw [ht]; exact hp2.sublist (List.eraseIdx_sublist _ _)
theorem mm2_sound {mx : Bool} {x y : AV} {vx vy : Value} (h : (mm2 mx x y).1) (hx : Rd G w x vx) (hy : Rd G w y vy) :
    ∃ v, ((if mx then Builtin.max2 else Builtin.min2) vx vy).run P w = .ok v w ∧ Rd G w (mm2 mx x y).2 v ∧ (mm2 mx x y).2.gl c := by
  unfold mm2 at *
  split at h
  · have := hx.sc_inv; subst this
    have := hy.sc_inv; subst this
    cases mx
    · exact ⟨_, by simp [Builtin.min2]; rfl, by simp [Rd], by simp [AV.gl]⟩
    · exact ⟨_, by simp [Builtin.max2]; rfl, by simp [Rd], by simp [AV.gl]⟩
  · exact absurd h (by simp)
theorem aMm_sound {mx : Bool} : ∀ {ys : List AV} {x : AV} {vx : Value} {vs : List Value}, (aMm mx x ys).1 → Rd G w x vx → x.gl c → RdL G w ys vs →
    ∃ v, (vs.foldlM (if mx then Builtin.max2 else Builtin.min2) vx).run P w = .ok v w ∧ Rd G w (aMm mx x ys).2 v ∧ (aMm mx x ys).2.gl c
  | [], x, vx, vs, _, hx, hg, hr => by
    simp only [RdL] at hr; subst hr
    exact ⟨vx, by simp, hx, hg⟩
  | y :: ys, x, vx, vs, h, hx, hg, hr => by
    simp only [RdL] at hr
    obtain ⟨v, r, rfl, h1, h2⟩ := hr
    obtain ⟨u, k1, k2, k3⟩ := mm2_sound (P := P) (c := c) h.1 hx h1
    obtain ⟨v', j1, j2, j3⟩ := aMm_sound (mx := mx) (x := (mm2 mx x y).2) h.2 k2 k3 h2
    refine ⟨v', ?_, j2, j3⟩
    rw [List.foldlM_cons, Sem.run_bind, k1]
    exact j1
end
end Go.Proofs.YtbmmdkbinlnogaaDoor.Aw
