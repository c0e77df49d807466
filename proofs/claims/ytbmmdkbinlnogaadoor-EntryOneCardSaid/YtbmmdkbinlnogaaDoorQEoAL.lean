/- Parts of the proofs of Eo. -/
import Derived.Test.YtbmmdkbinlnogaaDoorQEoAK
import Derived.Laws.StructEq
namespace Go.Proofs.YtbmmdkbinlnogaaDoor.Aw
open Go
set_option linter.unusedSimpArgs false
set_option linter.unusedVariables false
section
variable {P : Program} {G : Gh} {w : World} {c : Nat} {M : Nat → Prop} {hp : Hp}
theorem eqB_t {x y : AV} (h : x = y) : eqB x y = true := by simp [eqB, h]
theorem eqB_f {x y : AV} (h : x ≠ y) : eqB x y = false := by simp [eqB, h]
theorem aAeq_sound {T : TypeId} {z : Value} (hT : (match P.underlying T with | some (.array _ _) | some (.struct _) => true | _ => false) = true) (hz : keyZ P T = some z) (hgt : P.eqGuardType P.depth T = false) {neg : Bool} (ox oy : Operand) {x y : AV} {vx vy : Value}
    (h : (aAeq neg z x y).1) (hx : Rd G w x vx) (hy : Rd G w y vy) :
    ∃ v, (do eqGuard (if neg then .neq else .eql) T ox oy vx vy; binOp (if neg then .neq else .eql) T vx vy).run P w = .ok v w ∧ Rd G w (aAeq neg z x y).2 v ∧ (aAeq neg z x y).2.gl c := by
  obtain ⟨rfl, lx⟩ := likeA_det h.1 hx
  obtain ⟨rfl, ly⟩ := likeA_det h.2 hy
  obtain ⟨r, hr, hi⟩ := (keyZ_law hz).eqs hT w vx vy lx ly
  have hzz : ∃ zs, z = .agg zs := by
    unfold keyZ at hz
    split at hz
    · split at hz <;> simp_all
      · exact ⟨_, hz.2.symm⟩
      · exact ⟨_, hz.2.symm⟩
    · simp at hz
  obtain ⟨zs, rfl⟩ := hzz
  have ha : ∀ v, likeV (.agg zs) v → ∃ xs, v = .agg xs := fun v hv => by
    cases v <;> simp only [likeV, likeV1] at hv
    exact ⟨_, rfl⟩
  obtain ⟨xs, rfl⟩ := ha _ lx
  obtain ⟨ys, rfl⟩ := ha _ ly
  have he : eqB (absK (.agg xs)) (absK (.agg ys)) = r := by
    cases r with
    | true => exact eqB_t (by rw [hi.1 rfl])
    | false => exact eqB_f fun e => by have := hi.2 (absK_inj lx ly e); cases this
  have hgd := fun op => run_eqGuard_agg (P := P) (w := w) op T ox oy xs ys hgt
  refine ⟨.bool (neg ^^ r), ?_, by simp only [aAeq, he, boo, Rd], by simp only [aAeq]; exact gl_boo⟩
  cases neg with
  | false => simp only [binOp]; simp [hgd, hr]
  | true => simp only [binOp]; simp [hgd, hr]
def strV (s : ByteArray) : List Value := s.data.toList.map fun b => Value.int .u8 b.toNat
theorem strV_len {s : ByteArray} : (strV s).length = s.data.toList.length := by simp [strV]
theorem strV_one {s : ByteArray} : ∀ u ∈ strV s, u.oneCell' = true := by
  intro u hu
  obtain ⟨b, _, rfl⟩ := List.mem_map.1 hu
  rfl
theorem strV_u8 {s : ByteArray} : s.data.toList.map u8 = (strV s).map AV.sc := by simp [strV, u8]
theorem str_cells {s : ByteArray} : (s.extract 0 s.size).data.map (fun b : UInt8 => Value.int .u8 (b.toNat : Int)) = (strV s).toArray := by
  have : s.extract 0 s.size = s := by
    apply ByteArray.ext
    rw [ByteArray.data_extract]
    exact Array.extract_size
  rw [this]
  apply Array.ext'
  simp [strV]
theorem run_apps_same (t u ty e : TypeId) (i : TypeInfo) (ht : P.underlying t = some (.slice e)) (hu : P.underlying u = some .string) (hi : P.info? e = some i) (b : Option Addr) (n k : Nat) (hn : n ≤ k) (s : ByteArray) (h0 : s.size = 0) :
    (Builtin.append_ #[t, u] ty #[.slice b n k, .string s]).run P w = .ok (.slice b n k) w := by
  have hc := str_cells (s := s)
  have hv : strV s = [] := List.eq_nil_of_length_eq_zero (by rw [strV_len]; exact h0)
  rw [hv, h0] at hc
  cases b <;> simp [Builtin.append_, run_underlying ht, run_underlying hu, sizeOf, typeInfo, hi, Builtin.lenOf, Builtin.firstCells, hn, h0, storeCells]
theorem run_apps_nil (t u ty e : TypeId) (i : TypeInfo) (z : Value) (ht : P.underlying t = some (.slice e)) (hu : P.underlying u = some .string) (hi : P.info? e = some i) (hz : i.zero = some z)
    (s : ByteArray) (h0 : 0 < s.size) (h63 : s.size ≤ 70368744177664) (h48 : s.size * i.bytes ≤ 70368744177664) :
    (Builtin.append_ #[t, u] ty #[.slice none 0 0, .string s]).run P w =
      .ok (.slice (some ⟨w.heap.size, 0, none⟩) s.size (grownCap w s.size 0 e)) (w.drew.alloc (.cells ((strV s).toArray ++ Builtin.zeroCells z.cells (grownCap w s.size 0 e - s.size)) e)) := by
  have hn : s.size ≠ 0 := by omega
  have h63' : ¬ (9223372036854775807 < (s.size : Int)) := by omega
  have h48' : ¬ (281474976710656 < Builtin.nextslicecap s.size 0 * i.bytes) := by rw [nextslicecap_zero h0]; omega
  have hf : ∀ w', (Builtin.firstCells i.size s.size (.string s)).run P w' = .ok (strV s).toArray w' := fun w' => by
    rw [← str_cells]; rfl
  simp [Builtin.append_, run_underlying ht, run_underlying hu, sizeOf, typeInfo, zeroValue, hi, hz, Builtin.lenOf, hn, h63', h48', Question.forced, run_firstCells_none, hf, newRow, grownCap]
theorem run_apps_grow (t u ty e : TypeId) (i : TypeInfo) (z : Value) (ht : P.underlying t = some (.slice e)) (hu : P.underlying u = some .string) (hi : P.info? e = some i) (hz : i.zero = some z)
    (b : Addr) (sLen sCap : Nat) (olds : List Value) (hlo : olds.length = sLen * i.size) (holds : ∀ j v, olds[j]? = some v → w.cell? (b.add j) = some v)
    (s : ByteArray) (hg : sCap < sLen + s.size) (h63 : sLen + s.size ≤ 70368744177664) (hfit : Builtin.nextslicecap (sLen + s.size) sCap * i.bytes ≤ 281474976710656) :
    (Builtin.append_ #[t, u] ty #[.slice (some b) sLen sCap, .string s]).run P w =
      .ok (.slice (some ⟨w.heap.size, 0, none⟩) (sLen + s.size) (grownCap w (sLen + s.size) sCap e))
        (w.drew.alloc (.cells (olds.toArray ++ (strV s).toArray ++ Builtin.zeroCells z.cells (grownCap w (sLen + s.size) sCap e - (sLen + s.size))) e)) := by
  have hg' : ¬ (sLen + s.size ≤ sCap) := by omega
  have h63' : ¬ (9223372036854775807 < (sLen : Int) + (s.size : Int)) := by omega
  have h48' : ¬ (281474976710656 < Builtin.nextslicecap (sLen + s.size) sCap * i.bytes) := by omega
  have hfo := run_firstCells_some (P := P) w.drew i.size sLen b sLen sCap olds hlo (by simpa using holds)
  have hf : ∀ w', (Builtin.firstCells i.size s.size (.string s)).run P w' = .ok (strV s).toArray w' := fun w' => by
    rw [← str_cells]; rfl
  simp [Builtin.append_, run_underlying ht, run_underlying hu, sizeOf, typeInfo, zeroValue, hi, hz, Builtin.lenOf, hg', h63', h48', Question.forced, hfo, hf, newRow, grownCap]
  congr 2
  apply Array.ext'
  simp [List.append_assoc]
theorem run_apps_room (t u ty e E : TypeId) (i : TypeInfo) (ht : P.underlying t = some (.slice e)) (hu : P.underlying u = some .string) (hi : P.info? e = some i) (hs : i.size = 1)
    (g sLen sCap : Nat) (cur : Array Value) (hg : w.heap[g]? = some (.cells cur E (0, 0))) (s : ByteArray) (hroom : sLen + s.size ≤ sCap) (hfit : sLen + s.size ≤ cur.size) :
    (Builtin.append_ #[t, u] ty #[.slice (some ⟨g, 0, none⟩) sLen sCap, .string s]).run P w =
      .ok (.slice (some ⟨g, 0, none⟩) (sLen + s.size) sCap) (w.setRow g (cur.toList.take sLen ++ strV s ++ cur.toList.drop (sLen + s.size)).toArray) := by
  have hl : (strV s).length = s.size := strV_len
  have hst := run_storeCells_at P g sLen E (strV s) 0 cur w hg (by rw [hl]; simpa using hfit) strV_one
  simp only [Nat.add_zero, hl] at hst
  have hf : ∀ w', (Builtin.firstCells i.size s.size (.string s)).run P w' = .ok (strV s).toArray w' := fun w' => by
    rw [← str_cells]; rfl
  rw [hs] at hf
  simp [Builtin.append_, run_underlying ht, run_underlying hu, sizeOf, typeInfo, hi, hs, Builtin.lenOf, hroom, hf, add_mk, hst]
theorem aApps_sound {T U E ty : TypeId} {i : TypeInfo} {zv : Value} (hT : P.underlying T = some (.slice E)) (hU : P.underlying U = some .string) (hi : P.info? E = some i) (hz : i.zero = some zv) (hzs : zv.cells.size = 1) (hs1 : i.size = 1)
    (hH : Heap c M G hp w) (hM : ∀ b, w.heap.size ≤ b → M b) (d : Nat) {x y : AV} {vx vy : Value} (hx : Rd G w x vx) (hgx : x.gl c) (hy : Rd G w y vy) (h : (aApps i.bytes x y hp c d).1) :
    ∃ v w', (Builtin.append_ #[T, U] ty #[vx, vy]).run P w = .ok v w' ∧ Res c M G w (aApps i.bytes x y hp c d).2.1 (aApps i.bytes x y hp c d).2.2.1 (aApps i.bytes x y hp c d).2.2.2 v w' := by
  have hes : i.size = esz none := hs1
  have hnil : ∀ (s : ByteArray) (id : Nat), s.data.toList.length * i.bytes ≤ 70368744177664 → s.data.toList.length ≤ 70368744177664 → ∃ v w', (Builtin.append_ #[T, U] ty #[.slice none 0 0, .string s]).run P w = .ok v w' ∧
      Res c M G w (.own id c none 0 s.data.toList.length) (updH hp id (some (c, .row s.data.toList.isEmpty (s.data.toList.map u8)))) (c + 1) v w' := by
    intro s id hb hb'
    have hsz : s.data.toList.length = s.size := rfl
    rw [hsz] at hb hb' ⊢
    by_cases hn : s.size = 0
    · have hd : s.data.toList = [] := List.eq_nil_of_length_eq_zero hn
      refine ⟨_, _, run_apps_same T U ty E i hT hU hi none 0 0 (Nat.le_refl _) s hn, ?_⟩
      rw [hn, hd]
      exact res_nil hH id none
    · refine ⟨_, _, run_apps_nil T U ty E i zv hT hU hi hz s (by omega) hb' hb, ?_⟩
      have hge := grownCap_ge w s.size 0 E
      have := aApp_new (e := E) (es := none) (i := i) hes hH hM id (n := 0) (m := s.size) (cap := grownCap w s.size 0 E) (xs := []) (olds := []) (news := strV s) (zs := Builtin.zeroCells zv.cells (grownCap w s.size 0 E - s.size)) (by omega) (by rw [size_zeroCells, hzs, hs1]; congr 1; omega) (by simp [RdL]) (rdL_sc _) (by simp [AV.gl.glL]) (glL_sc _) (by simp) (by rw [strV_len, hs1, hsz]; omega) (by simp) strV_one
      rw [strV_u8]
      have e : s.data.toList.isEmpty = false := by
        cases hd : s.data.toList with
        | nil => rw [hd] at hsz; simp at hsz; omega
        | cons _ _ => rfl
      rw [e]
      simpa using this
  unfold aApps at *
  split at h
  · rename_i s
    have hyv := hy.sc_inv
    subst hyv
    have hsz : s.data.toList.length = s.size := rfl
    split at h
    · rename_i id g es' lo m
      split at h
      · rename_i g' nl cells hid
        obtain ⟨rfl, rfl, rfl, hn, hb, hb'⟩ := h
        obtain ⟨ob, hob, hnl, hnil', hrow⟩ := hH.rowC _ _ _ _ hid
        have hgc := (hH.gl _ _ _ _ hid).2
        simp only [Rd] at hx
        have hx := hx.2 _ hob
        cases ob with
        | none =>
          obtain ⟨rfl, rfl, _⟩ := hx
          have hc := hnil' rfl
          have hnl' : nl = true := hnl.2 rfl
          subst hc; subst hnl'
          have := hnil s id (by simpa using hb) (by simpa using hb')
          simpa using this
        | some b =>
          obtain ⟨cap, o, E0, k0, rfl, q1, q2, q3, q4⟩ := hx
          obtain ⟨_, hMb, vs0, cs, E', hbk, hvs, hcs, h1⟩ := hrow b rfl ⟨_, q3⟩
          have hnl' : nl = false := by cases nl <;> simp_all
          subst hnl'
          have hl0 := hvs.length
          simp only [Bool.false_and]
          have hshape : k0 = cs.size := by
            simp only [World.shape?, hbk] at q3
            cases q3; rfl
          subst hshape
          have hvl : vs0.length = m := by rw [hl0, ← hn]
          rw [hsz] at hb hb' ⊢
          have q4 : cap ≤ cs.size := by simpa [esz] using q4
          by_cases hn0 : s.size = 0
          · have hd : s.data.toList = [] := List.eq_nil_of_length_eq_zero hn0
            refine ⟨_, _, run_apps_same T U ty E i hT hU hi _ m cap q1 s hn0, ?_⟩
            have hself := CopyRow_self w b cs E' hbk
            have hres := res_row (c := c) (M := M) (G := G) (hp := hp) hH (id := id) (g := g') (g' := c) (c' := c + 1) hob (cs' := cs) hbk rfl hMb (.inl ⟨rfl, rfl⟩) hvs hgc hcs h1 (r := .own id c none 0 m) (x := .slice (some ⟨b, o, none⟩) m cap) (by
              simp only [Rd]
              refine ⟨.inr ⟨b, cap, o, rfl, q1, q2⟩, fun ob' hob' => ?_⟩
              rw [putG_at] at hob'; cases hob'
              rw [hself]
              exact ⟨cap, o, E0, cs.size, rfl, q1, q2, q3, by simpa [esz] using q4⟩) (by simp [AV.gl])
            rw [hself] at hres
            rw [hn0, hd]
            simpa using hres
          · by_cases hroom : m + s.size ≤ cap
            · have ho : o = 0 := by rcases q2 with q2 | q2 <;> omega
              subst ho
              have hfit : m + s.size ≤ cs.size := by omega
              have hrun := run_apps_room (P := P) (w := w) T U ty E E' i hT hU hi hs1 b m cap cs hbk s hroom hfit
              refine ⟨_, _, hrun, ?_⟩
              rw [strV_u8]
              have hsl : (strV s).length = s.size := strV_len
              have hsg := splice_get (o := m) (us := strV s) hcs (by omega) (by rw [hsl]; exact hfit)
              rw [hsl] at hsg
              refine res_row hH (id := id) (g := g') (g' := c) (c' := c + 1) hob hbk ?_ hMb (.inl ⟨rfl, rfl⟩) (vs := vs0 ++ strV s) (hvs.append (rdL_sc _)) (glL_append hgc (glL_sc _)) ?_ ?_ ?_ (by simp [AV.gl])
              · simp only [List.size_toArray, List.length_append, List.length_take, List.length_drop, hsl, Array.length_toList]
                omega
              · intro j u hu
                have := hsg j u
                rw [← hvl, List.take_length, List.drop_of_length_le (by omega), List.append_nil] at this
                rw [hvl] at this
                exact this hu
              · intro u hu
                rcases List.mem_append.1 hu with hu | hu
                · exact h1 u hu
                · exact strV_one u hu
              · refine rd_own_put (E := E') (k := cs.size) hroom ?_ (by simpa [esz] using q4)
                simp only [World.shape?, setRow_get _ _ _ _ _ _ hbk]
                simp only [List.size_toArray, List.length_append, List.length_take, List.length_drop, hsl, Array.length_toList]
                congr 2
                omega
            · have hold : ∀ (j : Nat) (v : Value), vs0[j]? = some v → w.cell? ((⟨b, o, none⟩ : Addr).add j) = some v := by
                intro j v hv
                have hlt : j < vs0.length := by
                  rcases Nat.lt_or_ge j vs0.length with h' | h'
                  · exact h'
                  · rw [List.getElem?_eq_none h'] at hv; simp at hv
                have ho : o = 0 := by
                  rcases q2 with q2 | q2
                  · exact q2
                  · omega
                subst ho
                rw [add_mk]
                simp only [World.cell?, hbk]
                simpa using hcs j v hv
              have hbb : (m + s.size) * i.bytes ≤ 140737488355328 := by omega
              have hrun := run_apps_grow (P := P) (w := w) T U ty E i zv hT hU hi hz ⟨b, o, none⟩ m cap vs0 (by rw [hvl, hs1]; omega) hold s (Nat.lt_of_not_le hroom) hb' (growslice_fits (by omega) hbb)
              refine ⟨_, _, hrun, ?_⟩
              have hge := grownCap_ge w (m + s.size) cap E
              have := aApp_new (e := E) (es := none) (i := i) hes hH hM id (n := m) (m := s.size) (cap := grownCap w (m + s.size) cap E) (news := strV s) (zs := Builtin.zeroCells zv.cells (grownCap w (m + s.size) cap E - (m + s.size))) hge (by rw [size_zeroCells, hzs, hs1]) hvs (rdL_sc _) hgc (glL_sc _) (by rw [hvl, hs1]; omega) (by rw [strV_len, hs1, hsz]; omega) h1 strV_one
              rw [strV_u8]
              simpa using this
      · exact absurd h (by simp)
    · obtain ⟨hb, hb'⟩ := h
      have hx := hx.sc_inv
      subst hx
      exact hnil s d hb hb'
    · exact absurd h (by simp)
  · exact absurd h (by simp)
end
end Go.Proofs.YtbmmdkbinlnogaaDoor.Aw
