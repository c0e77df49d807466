/- Parts of the proofs of Eo. -/
import Derived.Test.YtbmmdkbinlnogaaDoorQEoBA
namespace Go.Proofs.YtbmmdkbinlnogaaDoor.Aw
open Go
set_option linter.unusedSimpArgs false
set_option linter.unusedVariables false
section
variable {P : Program} [Tabs P] {st st' : ASt}
theorem HCon.of' {f N : Nat} {fn : Func} {ins : List AV} {hin : List AO} {out : AV} {hout : List (Nat × Nat × AO)} {k : Nat} {S : SCode} {rs : List RV} (hm : P.follows .mixedOrders = true) (hf : P.funcs[f]? = some fn) (hb : fn.body.isSome = true) (hN : fn.ntmps = N)
    (hs : slimC P N (fn.body.getD .skip) = S) (hrs : slimRes P fn = some rs) (hn : ins.length ≤ N) (hgl : AV.gl.glL 1 ins) (hgo : ∀ nl cells, AO.row nl cells ∈ hin → AV.gl.glL 1 cells) (h : SWp P S (finH rs out hout k) (startH N ins hin)) : HCon P f ins hin out hout k := by
  obtain ⟨code, hc⟩ := Option.isSome_iff_exists.1 hb
  subst hN
  exact HCon.of hm hf hc (by rw [hc] at hs; exact hs) hrs hn hgl hgo h
theorem finH_ret {rs : List RV} {out : AV} {hout : List (Nat × Nat × AO)} {k : Nat} : finH rs out hout k .ret st = (allOk st rs ∧ outOf st rs = out ∧ AllHp st.hp hout ∧ st.gc ≤ k) := rfl
theorem finH_normal {rs : List RV} {out : AV} {hout : List (Nat × Nat × AO)} {k : Nat} : finH rs out hout k .normal st = (allOk st rs ∧ outOf st rs = out ∧ AllHp st.hp hout ∧ st.gc ≤ k) := rfl
@[congr] theorem finH_congr {rs : List RV} {out : AV} {hout : List (Nat × Nat × AO)} {k : Nat} {e e' : Ex} (h : e = e') (h' : st = st') : finH rs out hout k e st = finH rs out hout k e' st' := by rw [h, h']
theorem hin0_0 : hin0 [] = lookH [] := by
  funext i; simp [hin0, lookH]
theorem hin0_1 {a : AO} : hin0 [a] = lookH [(1000, 0, a)] := by
  funext i
  simp only [hin0, lookH]
  by_cases h : i = 1000
  · subst h; simp
  · rw [if_neg h]
    split
    · rw [List.getElem?_eq_none (by simp; omega)]; rfl
    · rfl
theorem hin0_2 {a b : AO} : hin0 [a, b] = lookH [(1000, 0, a), (1001, 0, b)] := by
  funext i
  simp only [hin0, lookH]
  by_cases h : i = 1000
  · subst h; simp
  · by_cases h' : i = 1001
    · subst h'; simp
    · rw [if_neg h, if_neg h']
      split
      · rw [List.getElem?_eq_none (by simp; omega)]; rfl
      · rfl
theorem hin0_3 {a b c : AO} : hin0 [a, b, c] = lookH [(1000, 0, a), (1001, 0, b), (1002, 0, c)] := by
  funext i
  simp only [hin0, lookH]
  by_cases h : i = 1000
  · subst h; simp
  · by_cases h' : i = 1001
    · subst h'; simp
    · by_cases h2 : i = 1002
      · subst h2; simp
      · rw [if_neg h, if_neg h', if_neg h2]
        split
        · rw [List.getElem?_eq_none (by simp; omega)]; rfl
        · rfl
theorem startH_eq {N : Nat} {ins : List AV} {hin : List AO} : startH N ins hin = ⟨fun t => ins.getD t .junk, hin0 hin, 1, N⟩ := rfl
theorem goC_h {f : Nat} {ins : List AV} {d : Option Nat} {K : ASt → Prop} (hs : List (Nat × Nat)) (D : Nat) {insC : List AV} {hin : List AO} {out : AV} {hout : List (Nat × Nat × AO)} {k : Nat} (hc : HCon P f insC hin out hout k)
    (hn : (hs.map (·.1)).Nodup) (hD : ∀ p ∈ hs, p.1 < D) (hh : handOk st.hp (rho hs D st.gc) hs hin) (ha : ins = ren.renL (rho hs D st.gc) insC)
    (hK : K (ASt.put ⟨st.tm, outHp st.hp hs D st.gc hout, st.gc + k, st.N⟩ d (ren (rho hs D st.gc) out))) : goC P true f ins d st K :=
  .inr ⟨rfl, _, _, _, .inl ⟨hs, D, insC, hin, out, hout, k, hc, hn, hD, hh, .inl ha, rfl, rfl, rfl⟩, hK⟩
theorem goC_f {f : Nat} {ins : List AV} {d : Option Nat} {K : ASt → Prop} (id g : Nat) {nl : Bool} {cells : List AV} (insC : List AV) (out : AV) (hid : st.hp id = some (g, .row nl cells)) (hcf : AV.free.freeL cells = true) (hi : fzo.fzoL id g nl cells ins = insC) (hfree : AV.free.freeL insC = true)
    (hc : Con P f insC out) (hK : K (ASt.put ⟨st.tm, updH st.hp id none, st.gc, st.N⟩ d out)) : goC P true f ins d st K :=
  .inr ⟨rfl, _, _, _, .inr ⟨id, g, nl, cells, hid, hcf, by rw [hi]; exact hfree, by rw [hi]; exact hc, rfl, rfl⟩, hK⟩
theorem goC_p {t : Bool} {f : Nat} {ins : List AV} {d : Option Nat} {K : ASt → Prop} (out : AV) (hc : CallOk P f ins st.hp out) (hK : K (st.put d out)) : goC P t f ins d st K := .inl ⟨out, hc, hK⟩
def sw (i j k : Nat) : Nat := if k = i then j else if k = j then i else k
theorem sw_sw (i j k : Nat) : sw i j (sw i j k) = k := by
  unfold sw
  by_cases h : k = i
  · subst h; by_cases e : j = k
    · simp [e]
    · simp [e]
  · by_cases h' : k = j
    · subst h'; simp [h]
    · simp [h, h']
def swr (i j : Nat) : Nat → Nat → Nat × Nat := fun id g => (sw i j id, g)
def swH (i j : Nat) (hp : Hp) : Hp := fun id => match hp (sw i j id) with
  | some (g, o) => some (g, o.ren (swr i j))
  | none => none
def genOk : Option (Nat × AO) → Prop
  | none => True
  | some (g, _) => 1 ≤ g
theorem SWp.swap {Q : Ex → ASt → Prop} {c : SCode} (i j : Nat) (hi : genOk (st.hp i)) (hj : genOk (st.hp j)) (h : SWp P c Q ⟨fun t => ren (swr i j) (st.tm t), swH i j st.hp, st.gc, st.N⟩) : SWp P c Q st := by
  intro hm code hc w0 M Z G a w hZ hR
  have hob : ∀ id g ob, G.ob (sw i j (sw i j id)) g = some ob → G.ob id g = some ob := fun id g ob ho => by rwa [sw_sw] at ho
  have hS : false = false → ∀ b, G.S b → G.S b := fun _ _ h => h
  refine h hm code hc w0 M Z ⟨G.S, fun id g => G.ob (sw i j id) g⟩ a w hZ ⟨hR.keep, ⟨hR.heap.lt, ?_, ?_, ?_, ?_⟩, hR.size, ?_, ?_, hR.defers, hR.fr, ⟨hR.ext.S, hR.ext.cells, hR.ext.shape, ?_⟩, hR.lc, hR.lc1, hR.tabs⟩
  · intro id g ob ho
    obtain ⟨o, h1⟩ := hR.heap.live _ _ _ ho
    exact ⟨o.ren (swr i j), by simp only [swH]; rw [h1]⟩
  · intro id g nl cells ho
    simp only [swH] at ho
    cases hx : st.hp (sw i j id) with
    | none => rw [hx] at ho; simp at ho
    | some p =>
      obtain ⟨g', nl', cells'⟩ := p
      rw [hx] at ho
      simp only [AO.ren, Option.some.injEq, Prod.mk.injEq, AO.row.injEq] at ho
      obtain ⟨rfl, rfl, rfl⟩ := ho
      obtain ⟨q1, q2⟩ := hR.heap.gl _ _ _ _ hx
      exact ⟨q1, glL_ren (fun id g h => h) _ q2⟩
  · intro id g id' g' b h1 h2
    have := hR.heap.inj _ _ _ _ _ h1 h2
    rw [← sw_sw i j id, this, sw_sw]
  · intro id g nl cells ho
    simp only [swH] at ho
    cases hx : st.hp (sw i j id) with
    | none => rw [hx] at ho; simp at ho
    | some p =>
      obtain ⟨g', nl', cells'⟩ := p
      rw [hx] at ho
      simp only [AO.ren, Option.some.injEq, Prod.mk.injEq, AO.row.injEq] at ho
      obtain ⟨rfl, rfl, rfl⟩ := ho
      obtain ⟨ob, k1, k2, k3, k4⟩ := hR.heap.row _ _ _ _ hx
      refine ⟨ob, k1, k2, fun e => by rw [k3 e]; rfl, fun b hb => ?_⟩
      obtain ⟨q1, q2, us, q4, q3⟩ := k4 b hb
      exact ⟨q1, q2, us, RdL.ren (G := G) (G' := ⟨G.S, fun id g => G.ob (sw i j id) g⟩) (ρ := swr i j) (B := false) hS hob _ _ (by simp) q4, q3⟩
  · intro t
    exact Rd.ren (G := G) (G' := ⟨G.S, fun id g => G.ob (sw i j id) g⟩) (ρ := swr i j) (B := false) hS hob _ _ (by simp) (hR.tm t)
  · intro t
    exact gl_ren (fun id g h => h) _ (hR.gl t)
  · intro id g ob hg ho
    have hl : Z.c ≤ 1 := Nat.le_trans hR.lc1 (Nat.le_of_eq hZ)
    obtain ⟨o, h1⟩ := hR.heap.live _ _ _ ho
    have e : sw i j id = id := by
      unfold sw at h1 ⊢
      by_cases e1 : id = i
      · exfalso
        rw [if_pos e1] at h1
        rw [h1] at hj
        simp only [genOk] at hj; omega
      · rw [if_neg e1] at h1 ⊢
        by_cases e2 : id = j
        · exfalso
          rw [if_pos e2] at h1
          rw [h1] at hi
          simp only [genOk] at hi; omega
        · rw [if_neg e2]
    simp only [e] at ho
    exact hR.ext.ob _ _ _ hg ho
theorem rho_e {D c id g : Nat} : rho [] D c id g = (D + id, c + g) := rho_new (by simp [handed])
theorem rho_b1 {p : Nat × Nat} {D c id g : Nat} (h : 1001 ≤ id) : rho [p] D c id g = (D + id, c + g) := rho_new (by simp [handed]; omega)
theorem rho_b2 {p q : Nat × Nat} {D c id g : Nat} (h : 1002 ≤ id) : rho [p, q] D c id g = (D + id, c + g) := rho_new (by simp [handed]; omega)
theorem rho_b3 {p q r : Nat × Nat} {D c id g : Nat} (h : 1003 ≤ id) : rho [p, q, r] D c id g = (D + id, c + g) := rho_new (by simp [handed]; omega)
theorem unu8_one {c : UInt8} : unu8 (.sc (.int .u8 c.toNat)) = c := by simp [unu8]
theorem renL_u8 {ρ : Nat → Nat → Nat × Nat} {l : List UInt8} : ren.renL ρ (l.map u8) = l.map u8 := renL_free ρ _ (by rw [freeL_iff]; intro x hx; obtain ⟨c, _, rfl⟩ := List.mem_map.1 hx; rfl)
theorem renL_cons {ρ : Nat → Nat → Nat × Nat} {x : AV} {xs : List AV} : ren.renL ρ (x :: xs) = ren ρ x :: ren.renL ρ xs := rfl
theorem renL_nil' {ρ : Nat → Nat → Nat × Nat} : ren.renL ρ [] = [] := rfl
theorem renL_append {ρ : Nat → Nat → Nat × Nat} {xs ys : List AV} : ren.renL ρ (xs ++ ys) = ren.renL ρ xs ++ ren.renL ρ ys := by
  induction xs with
  | nil => rfl
  | cons x xs ih => simp only [List.cons_append, renL_cons, ih]
theorem handOk_cons {hp : Hp} {ρ : Nat → Nat → Nat × Nat} {p : Nat × Nat} {hs : List (Nat × Nat)} {o : AO} {hin : List AO} : handOk hp ρ (p :: hs) (o :: hin) = (hp p.1 = some (p.2, o.ren ρ) ∧ handOk hp ρ hs hin) := rfl
theorem handOk_nil {hp : Hp} {ρ : Nat → Nat → Nat × Nat} : handOk hp ρ [] [] = True := rfl
theorem AO_ren {ρ : Nat → Nat → Nat × Nat} {nl : Bool} {cells : List AV} : (AO.row nl cells).ren ρ = .row nl (ren.renL ρ cells) := rfl
theorem ren_sc {ρ : Nat → Nat → Nat × Nat} {v : Value} : ren ρ (.sc v) = .sc v := rfl
theorem ren_own {ρ : Nat → Nat → Nat × Nat} {id g lo n : Nat} {es : Option Nat} : ren ρ (.own id g es lo n) = .own (ρ id g).1 (ρ id g).2 es lo n := rfl
theorem ren_op {ρ : Nat → Nat → Nat × Nat} {id g o : Nat} : ren ρ (.op id g o) = .op (ρ id g).1 (ρ id g).2 o := rfl
theorem ren_agg {ρ : Nat → Nat → Nat × Nat} {xs : List AV} : ren ρ (.agg xs) = .agg (ren.renL ρ xs) := rfl
theorem ren_tup {ρ : Nat → Nat → Nat × Nat} {xs : List AV} : ren ρ (.tup xs) = .tup (ren.renL ρ xs) := rfl
theorem ren_sl {ρ : Nat → Nat → Nat × Nat} {nl : Bool} {es : Option Nat} {xs : List AV} : ren ρ (.sl nl es xs) = .sl nl es (ren.renL ρ xs) := rfl
theorem ren_junk {ρ : Nat → Nat → Nat × Nat} : ren ρ .junk = .junk := rfl
theorem outHp_nil {hp : Hp} {hs : List (Nat × Nat)} {D c : Nat} : outHp hp hs D c [] = dropH hp hs := rfl
theorem outHp_cons {hp : Hp} {hs : List (Nat × Nat)} {D c id g : Nat} {o : AO} {r : List (Nat × Nat × AO)} : outHp hp hs D c ((id, g, o) :: r) = updH (outHp hp hs D c r) (rho hs D c id g).1 (some ((rho hs D c id g).2, o.ren (rho hs D c))) := rfl
theorem dropH_nil {hp : Hp} : dropH hp [] = hp := rfl
theorem dropH_cons {hp : Hp} {p : Nat × Nat} {r : List (Nat × Nat)} : dropH hp (p :: r) = updH (dropH hp r) p.1 none := rfl
theorem rho_h0 {p : Nat × Nat} {hs : List (Nat × Nat)} {D c : Nat} : rho (p :: hs) D c 1000 0 = p := by simp [rho, handed]
theorem rho_h0' {p : Nat × Nat} {hs : List (Nat × Nat)} {D c g : Nat} : rho (p :: hs) D c 1000 (g + 1) = (p.1, c + (g + 1)) := by simp [rho, handed]
theorem rho_h1 {p q : Nat × Nat} {hs : List (Nat × Nat)} {D c : Nat} : rho (p :: q :: hs) D c 1001 0 = q := by simp [rho, handed]
theorem rho_h2 {p q r : Nat × Nat} {hs : List (Nat × Nat)} {D c : Nat} : rho (p :: q :: r :: hs) D c 1002 0 = r := by simp [rho, handed]
theorem rho_h2' {p q r : Nat × Nat} {hs : List (Nat × Nat)} {D c g : Nat} : rho (p :: q :: r :: hs) D c 1002 (g + 1) = (r.1, c + (g + 1)) := by simp [rho, handed]
theorem rho_h1' {p q : Nat × Nat} {hs : List (Nat × Nat)} {D c g : Nat} : rho (p :: q :: hs) D c 1001 (g + 1) = (q.1, c + (g + 1)) := by simp [rho, handed]
theorem rho_n {hs : List (Nat × Nat)} {D c id g : Nat} (h : id < 1000) : rho hs D c id g = (D + id, c + g) := by unfold rho; rw [if_neg]; intro e; have := e.1; omega
end
end Go.Proofs.YtbmmdkbinlnogaaDoor.Aw
