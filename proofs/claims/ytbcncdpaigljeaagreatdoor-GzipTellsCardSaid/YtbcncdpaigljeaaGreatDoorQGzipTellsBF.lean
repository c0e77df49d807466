/- Parts of the proof of GzipTells. -/
import Derived.Test.YtbcncdpaigljeaaGreatDoorQGzipTellsBE
import Derived.Test.YtbcncdpaigljeaaGreatDoorQGzipTellsBB
import Derived.Test.YtbcncdpaigljeaaGreatDoorQGzipTellsBD
namespace Go.Proofs.YtbcncdpaigljeaaGreatDoor.Aw
open Go
set_option linter.unusedSimpArgs false
set_option linter.unusedVariables false
def wrR (g n i : Nat) : List AV := [.own 1001 g none 0 n, .sc (.int .i64 (i : Int))]
theorem wr_gl {n i : Nat} {nl : Bool} {b : List UInt8} : ∀ m cells, AO.row m cells ∈ [AO.row false (wrR 0 n i), .row nl (b.map u8)] → AV.gl.glL 1 cells := by
  intro m cells h
  simp only [List.mem_cons, AO.row.injEq, List.not_mem_nil, or_false] at h
  obtain ⟨-, rfl⟩ | ⟨-, rfl⟩ := h
  · simp only [wrR, AV.gl.glL, AV.gl, and_true]; omega
  · exact glL_of_free _ _ free_u8
theorem huff_NewWriter_h [Tabs Tryz.prog] : HCon Tryz.prog n_huff_NewWriter [] [] (.op 2 1 0) [(2, 1, .row false [.own 100 2 none 0 0, int 0]), (100, 2, .row true [])] 3 := by
  refine HCon.of' mix Tryz.func19 rfl Tryz.ntmps19 e_huff_NewWriter r_huff_NewWriter (by simp) (by simp [AV.gl.glL]) (by simp) ?_
  unfold s_huff_NewWriter
  iterate 4 (first | refine wA ?_ | refine wB ?_ | refine wC rfl ?_ | refine wD rfl ?_ | refine wE ?_ | refine wF (by omega) ?_ | ((first | refine wG ?_ | refine wH ?_ | refine wI ?_ | refine wJ ?_ | refine wK ?_ | refine wL ?_); simp (disch := omega) only [wP, wZ, undef, seval, if_pos, if_neg, aStore, frz, AV.flat, ↓reduceIte, ne_eq, reduceCtorEq, ByteArray.size]))
  refine SWp.adoptC 2 1 0 100 none (nl := false) (cells := [.sc (.slice none 0 0), int 0]) (by simp (disch := omega) only [wP, wZ, undef, seval, if_pos, if_neg, aStore, frz, AV.flat, ↓reduceIte, ne_eq, reduceCtorEq, ByteArray.size]) rfl (by decide) ?_
  repeat (first | refine wA ?_ | refine wB ?_ | refine wC rfl ?_ | refine wD rfl ?_ | refine wE ?_ | refine wF (by omega) ?_ | ((first | refine wG ?_ | refine wH ?_ | refine wI ?_ | refine wJ ?_ | refine wK ?_ | refine wL ?_); simp (disch := omega) only [wP, wZ, undef, seval, if_pos, if_neg, aStore, frz, AV.flat, ↓reduceIte, ne_eq, reduceCtorEq, ByteArray.size, List.set_cons_zero]))
set_option maxRecDepth 100000 in
theorem huff_wbit_h [Tabs Tryz.prog] (L : List Nat) (hl : L.length ≤ 3000000) (hL : ∀ x ∈ L, x < 2) (n i : Nat) (hn : n = (L.length + 7) / 8) (hi : i = L.length) (x : Nat) (hx : x < 2) :
    HCon Tryz.prog n_huff_Writer_bit [.op 1000 0 0, .sc (.int .i64 (x : Int))] [.row false (wrR 0 n i), .row (nl0 n) ((bytesB L).map u8)] (.tup [])
      [(1000, 0, .row false (wrR 1 ((i + 8) / 8) (i + 1))), (1001, 1, .row false ((bytesB (L ++ [x])).map u8))] 2 := by
  refine HCon.of' mix Tryz.func121 rfl Tryz.ntmps121 e_huff_Writer_bit r_huff_Writer_bit (by simp) (by simp [AV.gl, AV.gl.glL]) wr_gl ?_
  unfold s_huff_Writer_bit
  have hbl : (bytesB L).length = n := by rw [length_bytesB, hn]
  by_cases c0 : i % 8 = 0
  · have hs := bytesB_snoc0 (L := L) (x := x) (by omega)
    have hin : i / 8 = n := by omega
    have hn1 : (i + 8) / 8 = n + 1 := by omega
    obtain ⟨b, hb⟩ : ∃ b, b = bytesB L := ⟨_, rfl⟩
    rw [← hb] at hs hbl ⊢
    rw [hs, hn1]
    obtain ⟨b0, hb0⟩ : ∃ b0, b0 = b ++ [0] := ⟨_, rfl⟩
    have hrow : b.map u8 ++ [AV.sc (.int .u8 0)] = b0.map u8 := by rw [hb0]; simp [u8]
    have hl0 : b0.length = n + 1 := by rw [hb0]; simp [hbl]
    have hg0 : b0.getD n 0 = 0 := by rw [hb0, ← hbl]; simp [List.getD]
    have hset : b0.set n (UInt8.ofNat x) = b ++ [UInt8.ofNat x] := by rw [hb0, ← hbl]; simp
    have hor : aInt .or .u8 ((b0.getD n 0).toNat : Int) .u8 (x : Int) = (True, .sc (.int .u8 ((UInt8.ofNat x).toNat : Int))) := by
      rw [hg0]
      obtain rfl | rfl : x = 0 ∨ x = 1 := by omega
      · exact or_u8 (n := 0) (m := 0) (by omega) (by omega)
      · exact or_u8 (n := 0) (m := 1) (by omega) (by omega)
    have hfin := splice_u8 (b := b0) (k := n) (c := UInt8.ofNat x) (by omega)
    rw [hset] at hfin
    repeat (first | refine wA ?_ | refine wB ?_ | refine wC rfl ?_ | refine wD rfl ?_ | refine wE ?_ | refine wF (by omega) ?_ | ((first | refine wG ?_ | refine wH ?_ | refine wI ?_ | refine wJ ?_ | refine wK ?_ | refine wL ?_); simp (disch := omega) only [wP, wZ, undef, seval, if_pos, if_neg, aStore, frz, AV.flat, ↓reduceIte, ne_eq, reduceCtorEq, ByteArray.size, wrR, c0, hin, hrow, hor, hfin, iR]))
  · have hs := bytesB_snoc1 (L := L) (x := x) (by omega)
    have hla := bytesB_last (L := L) (by omega)
    obtain ⟨q, hq⟩ : ∃ q, q = L.length / 8 := ⟨_, rfl⟩
    obtain ⟨j, hj⟩ : ∃ j, j = L.length % 8 := ⟨_, rfl⟩
    rw [← hq] at hs hla
    rw [← hj] at hs
    have hlt := numB_lt (l := L.drop (8 * q)) fun y hy => hL y (List.mem_of_mem_drop hy)
    have hdl : (L.drop (8 * q)).length = j := by rw [List.length_drop]; omega
    rw [hdl] at hlt
    obtain ⟨y, hy⟩ : ∃ y, y = numB (L.drop (8 * q)) := ⟨_, rfl⟩
    rw [← hy] at hs hla hlt
    have hp : 2 ^ j ≤ 128 := two_pow_le (n := j) (m := 7) (by omega)
    obtain ⟨z, hz⟩ : ∃ z, z = x * 2 ^ j := ⟨_, rfl⟩
    have hzl : z ≤ 128 := by
      obtain rfl | rfl : x = 0 ∨ x = 1 := by omega
      · omega
      · omega
    have hor : y ||| z = y + 2 ^ j * x := by
      rw [hz, Nat.mul_comm, Nat.or_comm, ← Nat.two_pow_add_eq_or_of_lt hlt, Nat.add_comm]
    have hyz : y + 2 ^ j * x < 256 := by
      rw [Nat.mul_comm, ← hz]
      have := Nat.or_lt_two_pow (n := 8) (x := y) (y := z) (by omega) (by omega)
      rw [hor, Nat.mul_comm, ← hz] at this
      exact this
    have hiq : i / 8 = q := by omega
    have hij : i % 8 = j := by omega
    have hi8 : (i + 8) / 8 = n := by omega
    have hqn : q < n := by omega
    obtain ⟨b, hb⟩ : ∃ b, b = bytesB L := ⟨_, rfl⟩
    rw [← hb] at hs hla hbl ⊢
    rw [hs, hi8]
    have hbq : ((b.getD q 0).toNat : Int) = (y : Int) := by rw [hla, UInt8.toNat_ofNat', Nat.mod_eq_of_lt (by omega)]
    obtain ⟨c, hc⟩ : ∃ c, c = UInt8.ofNat (y + 2 ^ j * x) := ⟨_, rfl⟩
    have hcy : y ||| z = c.toNat := by rw [hc, hor, UInt8.toNat_ofNat', Nat.mod_eq_of_lt hyz]
    rw [← hc]
    have hfin := splice_u8 (b := b) (k := q) (c := c) (by omega)
    have dj : decide ((j : Int) = 0) = false := decide_eq_false (by omega)
    have hnl : nl0 n = false := nl0_pos (by omega)
    refine SWp.renew 1001 0 (o := .row (nl0 n) (b.map u8)) (by simp (disch := omega) only [wP, wZ, undef, seval, if_pos, if_neg, aStore, frz, AV.flat, ↓reduceIte, ne_eq, reduceCtorEq, ByteArray.size, wrR]) ?_
    refine SWp.le (le_mk (N := 47) (gc := 2) (l := [(0, .op 1000 0 0), (1, .sc (.int .i64 (x : Int)))]) (h := [(1000, 0, .row false (wrR 1 n i)), (1001, 1, .row false (b.map u8))]) rfl ?_ ?_ ?_) ?_
    · exact Nat.le_refl _
    iterate 2 (case _ => simp (disch := omega) only [wP, wZ, undef, seval, if_pos, if_neg, aStore, frz, AV.flat, ↓reduceIte, ne_eq, reduceCtorEq, ByteArray.size, rgn_eq, wrR, rgH_at, hnl])
    repeat (first | refine wA ?_ | refine wB ?_ | refine wC rfl ?_ | refine wD rfl ?_ | refine wE ?_ | refine wF (by omega) ?_ | ((first | refine wG ?_ | refine wH ?_ | refine wI ?_ | refine wJ ?_ | refine wK ?_ | refine wL ?_); simp (disch := omega) only [wP, wZ, undef, seval, if_pos, if_neg, aStore, frz, AV.flat, ↓reduceIte, ne_eq, reduceCtorEq, ByteArray.size, wrR, hij, dj, hiq, hbq, ← hz, hcy, hfin, iR]))
set_option maxRecDepth 100000 in
theorem huff_Put_h [Tabs Tryz.prog] (L : List Nat) (hl : L.length ≤ 2000000) (hL : ∀ x ∈ L, x < 2) (v : Nat) (hv : v < 16777216) (n : Nat) (hn : n ≤ 24) (i m : Nat) (hi : i = L.length) (hm : m = (L.length + 7) / 8) :
    HCon Tryz.prog n_huff_Writer_Put [.op 1000 0 0, .sc (.int .i64 (v : Int)), .sc (.int .i64 (n : Int))] [.row false (wrR 0 m i), .row (nl0 m) ((bytesB L).map u8)] (.tup [])
      [(1000, 0, .row false (wrR 60 ((i + n + 7) / 8) (i + n))), (1001, 60, .row (nl0 ((i + n + 7) / 8)) ((bytesB (L ++ digB v n)).map u8))] 61 := by
  refine HCon.of' mix Tryz.func80 rfl Tryz.ntmps80 e_huff_Writer_Put r_huff_Writer_Put (by simp) (by simp [AV.gl, AV.gl.glL]) wr_gl ?_
  unfold s_huff_Writer_Put
  have d1 : decide ((n : Int) < 0) = false := decide_eq_false (by omega)
  have d2 : decide (24 < (n : Int)) = false := decide_eq_false (by omega)
  repeat (first | refine wA ?_ | refine wB ?_ | refine wC rfl ?_ | refine wD rfl ?_ | refine wE ?_ | refine wF (by omega) ?_ | ((first | refine wG ?_ | refine wH ?_ | refine wI ?_ | refine wJ ?_ | refine wK ?_ | refine wL ?_); simp (disch := omega) only [wP, wZ, undef, seval, if_pos, if_neg, aStore, frz, AV.flat, ↓reduceIte, ne_eq, reduceCtorEq, ByteArray.size, d1, d2]))
  refine SWp.loop (α := Nat × Nat) (fun x => mk 24 (1 + 2 * x.1) [(0, .op 1000 0 0), (1, .sc (.int .i64 (v : Int))), (13, int n), (14, int x.1)] [(1000, 0, .row false (wrR x.2 ((i + x.1 + 7) / 8) (i + x.1))), (1001, x.2, .row (nl0 ((i + x.1 + 7) / 8)) ((bytesB (L ++ (digB v n).take x.1)).map u8))])
    (fun x => x.1 ≤ n) (fun x => n - x.1) (0, 0) (Nat.zero_le _) (le_mk rfl ?_ ?_ ?_) ?_
  · exact Nat.le_refl _
  · simp (disch := omega) only [wP, wZ, undef, seval, if_pos, if_neg, aStore, frz, AV.flat, ↓reduceIte, ne_eq, reduceCtorEq, ByteArray.size]
  · simp (disch := omega) only [wP, wZ, undef, seval, if_pos, if_neg, aStore, frz, AV.flat, ↓reduceIte, ne_eq, reduceCtorEq, ByteArray.size, wrR, List.take_zero, List.append_nil]
    rw [hm, hi]; exact ⟨rfl, rfl⟩
  rintro ⟨k, g⟩ hk -
  simp only at hk
  repeat (first | refine wA ?_ | refine wB ?_ | refine wC rfl ?_ | refine wD rfl ?_ | refine wE ?_ | refine wF (by omega) ?_ | ((first | refine wG ?_ | refine wH ?_ | refine wI ?_ | refine wJ ?_ | refine wK ?_ | refine wL ?_); simp (disch := omega) only [wP, wZ, undef, seval, if_pos, if_neg, aStore, frz, AV.flat, ↓reduceIte, ne_eq, reduceCtorEq, ByteArray.size]))
  refine SWp.cond rfl (fun h => ?_) (fun h => ?_)
  · simp only [decide_eq_true_eq] at h
    have hkn : k < n := by omega
    have hs := digB_snoc (v := v) hkn
    obtain ⟨L', hL'⟩ : ∃ L', L' = L ++ (digB v n).take k := ⟨_, rfl⟩
    have hll : L'.length = i + k := by rw [hL', List.length_append, List.length_take, length_digB]; omega
    have hL2 : ∀ x ∈ L', x < 2 := by
      rw [hL']
      intro x hx
      rcases List.mem_append.1 hx with h | h
      · exact hL x h
      · exact digB_lt x (List.mem_of_mem_take h)
    obtain ⟨y, hy⟩ : ∃ y, y = v / 2 ^ k := ⟨_, rfl⟩
    rw [← hy] at hs
    have hyv : y < 16777216 := by rw [hy]; exact Nat.lt_of_le_of_lt (Nat.div_le_self _ _) hv
    have hbit := huff_wbit_h L' (by omega) hL2 ((i + k + 7) / 8) (i + k) (by rw [hll]) hll.symm (y % 2) (Nat.mod_lt _ (by omega))
    have hs2 : L ++ (digB v n).take (k + 1) = L' ++ [y % 2] := by rw [hs, hL', List.append_assoc]
    rw [← hL']
    have e78 : i + (k + 1) + 7 = i + k + 8 := by omega
    have hnl : nl0 ((i + k + 8) / 8) = false := nl0_pos (by omega)
    repeat (first | refine wA ?_ | refine wB ?_ | refine wC rfl ?_ | refine wD rfl ?_ | refine wE ?_ | refine wF (by omega) ?_ | ((first | refine wG ?_ | refine wH ?_ | refine wI ?_ | refine wJ ?_ | refine wK ?_ | refine wL ?_); simp (disch := omega) only [wP, wZ, undef, seval, if_pos, if_neg, aStore, frz, AV.flat, ↓reduceIte, ne_eq, reduceCtorEq, ByteArray.size, ← hy, wrR]))
    refine goC_h [(1000, 0), (1001, g)] 2000 hbit (by simp) (by simp) ?_ ?_ ?_
    iterate 2 (case _ => simp (disch := omega) only [wP, wZ, undef, seval, if_pos, if_neg, aStore, frz, AV.flat, ↓reduceIte, ne_eq, reduceCtorEq, ByteArray.size, wrR, iR])
    repeat (first | refine wA ?_ | refine wB ?_ | refine wC rfl ?_ | refine wD rfl ?_ | refine wE ?_ | refine wF (by omega) ?_ | ((first | refine wG ?_ | refine wH ?_ | refine wI ?_ | refine wJ ?_ | refine wK ?_ | refine wL ?_); simp (disch := omega) only [wP, wZ, undef, seval, if_pos, if_neg, aStore, frz, AV.flat, ↓reduceIte, ne_eq, reduceCtorEq, ByteArray.size, wrR, iR]))
    refine At.of (k + 1, 1 + 2 * k + 1) (by simp only; omega) (by simp only; omega) rfl rfl ?_ ?_ ?_
    · simp only; omega
    iterate 2 (case _ => simp (disch := omega) only [wP, wZ, undef, seval, if_pos, if_neg, aStore, frz, AV.flat, ↓reduceIte, ne_eq, reduceCtorEq, ByteArray.size, wrR, hs2, e78, hnl, Int.add_assoc])
  · simp only [decide_eq_false_iff_not] at h
    obtain rfl : k = n := by omega
    have ht : (digB v k).take k = digB v k := List.take_of_length_le (by rw [length_digB]; exact Nat.le_refl _)
    rw [ht]
    refine SWp.le (le_mk (N := 24) (gc := 60) (l := []) (h := [(1000, 0, .row false (wrR g ((i + k + 7) / 8) (i + k))), (1001, g, .row (nl0 ((i + k + 7) / 8)) ((bytesB (L ++ digB v k)).map u8))]) rfl ?_ ?_ ?_) ?_
    · simp (disch := omega) only [wP, wZ, undef, seval, if_pos, if_neg, aStore, frz, AV.flat, ↓reduceIte, ne_eq, reduceCtorEq, ByteArray.size]
      omega
    iterate 2 (case _ => simp (disch := omega) only [wP, wZ, undef, seval, if_pos, if_neg, aStore, frz, AV.flat, ↓reduceIte, ne_eq, reduceCtorEq, ByteArray.size])
    refine SWp.renew 1001 g (o := .row (nl0 ((i + k + 7) / 8)) ((bytesB (L ++ digB v k)).map u8)) (by simp (disch := omega) only [wP, wZ, undef, seval, if_pos, if_neg, aStore, frz, AV.flat, ↓reduceIte, ne_eq, reduceCtorEq, ByteArray.size]) ?_
    refine SWp.le (le_mk (N := 24) (gc := 61) (l := []) (h := [(1000, 0, .row false (wrR 60 ((i + k + 7) / 8) (i + k))), (1001, 60, .row (nl0 ((i + k + 7) / 8)) ((bytesB (L ++ digB v k)).map u8))]) rfl ?_ ?_ ?_) ?_
    iterate 3 (case _ => simp (disch := omega) only [wP, wZ, undef, seval, if_pos, if_neg, aStore, frz, AV.flat, ↓reduceIte, ne_eq, reduceCtorEq, ByteArray.size, wrR, rgH_at, rgn_eq])
    repeat (first | refine wA ?_ | refine wB ?_ | refine wC rfl ?_ | refine wD rfl ?_ | refine wE ?_ | refine wF (by omega) ?_ | ((first | refine wG ?_ | refine wH ?_ | refine wI ?_ | refine wJ ?_ | refine wK ?_ | refine wL ?_); simp (disch := omega) only [wP, wZ, undef, seval, if_pos, if_neg, aStore, frz, AV.flat, ↓reduceIte, ne_eq, reduceCtorEq, ByteArray.size, iR]))
theorem huff_WBytes_h [Tabs Tryz.prog] (n i : Nat) (b : List UInt8) (hb : b.length = n) (hn : n ≤ 1000000) : HCon Tryz.prog n_huff_Writer_Bytes [.op 1000 0 0] [.row false (wrR 0 n i), .row (nl0 n) (b.map u8)] (.sl (nl0 n) none (b.map u8)) [(1000, 0, .row false (wrR 0 n i)), (1001, 0, .row (nl0 n) (b.map u8))] 10 := by
  refine HCon.of' mix Tryz.func24 rfl Tryz.ntmps24 e_huff_Writer_Bytes r_huff_Writer_Bytes (by simp) (by simp [AV.gl, AV.gl.glL]) wr_gl ?_
  unfold s_huff_Writer_Bytes
  have hnl : nl0 n = true → b = [] := by
    intro h
    cases n with
    | zero => exact List.eq_nil_of_length_eq_zero hb
    | succ n => simp [nl0] at h
  have hcl := bytes_Clone_h (nl0 n) b (by omega) hnl
  rw [hb] at hcl
  repeat (first | refine wA ?_ | refine wB ?_ | refine wC rfl ?_ | refine wD rfl ?_ | refine wE ?_ | refine wF (by omega) ?_ | ((first | refine wG ?_ | refine wH ?_ | refine wI ?_ | refine wJ ?_ | refine wK ?_ | refine wL ?_); simp (disch := omega) only [wP, wZ, undef, seval, if_pos, if_neg, aStore, frz, AV.flat, ↓reduceIte, ne_eq, reduceCtorEq, ByteArray.size, wrR]))
  refine goC_hB [] 2000 hcl (by simp) (by simp) ?_ ?_ rfl ?_ ?_
  · simp (disch := omega) only [wP, wZ, undef, seval, if_pos, if_neg, aStore, frz, AV.flat, ↓reduceIte, ne_eq, reduceCtorEq, ByteArray.size]
  · refine ⟨.inr ⟨?_, ?_⟩, trivial⟩
    · simp (disch := omega) only [wP, wZ, undef, seval, if_pos, if_neg, aStore, frz, AV.flat, ↓reduceIte, ne_eq, reduceCtorEq, ByteArray.size, hb]
    · simp only [AV.free, free_u8]
  · simp only [foH, foL_b8, Bool.and_self]
  iterate 1 (first | refine wA ?_ | refine wB ?_ | refine wC rfl ?_ | refine wD rfl ?_ | refine wE ?_ | refine wF (by omega) ?_ | ((first | refine wG ?_ | refine wH ?_ | refine wI ?_ | refine wJ ?_ | refine wK ?_ | refine wL ?_); simp (disch := omega) only [wP, wZ, undef, seval, if_pos, if_neg, aStore, frz, AV.flat, ↓reduceIte, ne_eq, reduceCtorEq, ByteArray.size, wrR]))
  refine SWp.frzo 2005 3 (nl := nl0 n) (cells := b.map u8) (by simp (disch := omega) only [wP, wZ, undef, seval, if_pos, if_neg, aStore, frz, AV.flat, ↓reduceIte, ne_eq, reduceCtorEq, ByteArray.size]) free_u8 ?_
  refine SWp.le (le_mk (N := 8) (gc := 4) (l := [(2, .sl (nl0 n) none (b.map u8))]) (h := [(1000, 0, .row false (wrR 0 n i)), (1001, 0, .row (nl0 n) (b.map u8))]) rfl ?_ ?_ ?_) ?_
  iterate 3 (case _ => simp (disch := omega) only [wP, wZ, undef, seval, if_pos, if_neg, aStore, frz, AV.flat, ↓reduceIte, ne_eq, reduceCtorEq, ByteArray.size, fR, hb, wrR])
  repeat (first | refine wA ?_ | refine wB ?_ | refine wC rfl ?_ | refine wD rfl ?_ | refine wE ?_ | refine wF (by omega) ?_ | ((first | refine wG ?_ | refine wH ?_ | refine wI ?_ | refine wJ ?_ | refine wK ?_ | refine wL ?_); simp (disch := omega) only [wP, wZ, undef, seval, if_pos, if_neg, aStore, frz, AV.flat, ↓reduceIte, ne_eq, reduceCtorEq, ByteArray.size, wrR]))
end Go.Proofs.YtbcncdpaigljeaaGreatDoor.Aw
namespace Go.Proofs.YtbcncdpaigljeaaGreatDoor.Aw
open Go
set_option linter.unusedSimpArgs false
set_option linter.unusedVariables false
theorem numB_dig (v : Nat) : ∀ (n : Nat), numB (digB v n) = v % 2 ^ n
  | 0 => by simp [digB, numB, Nat.mod_one]
  | n + 1 => by
    have e : digB v (n + 1) = digB v n ++ [v / 2 ^ n % 2] := by simp [digB, List.range_succ]
    rw [e, numB_append, numB_dig v n, length_digB]
    simp only [numB, Nat.mul_zero, Nat.add_zero]
    rw [Nat.pow_succ, Nat.mod_mul]
theorem numB_byte {c : UInt8} : numB (bitsB c) = c.toNat := by
  have := numB_dig c.toNat 8
  rw [Nat.mod_eq_of_lt (by have := c.toNat_lt; omega)] at this
  exact this
theorem drop_bits {X : List UInt8} : ∀ (k : Nat), (bitsL X).drop (8 * k) = bitsL (X.drop k) := by
  intro k
  have e : bitsL X = bitsL (X.take k) ++ bitsL (X.drop k) := by rw [← bitsL_append, List.take_append_drop]
  rw [e]
  by_cases h : k ≤ X.length
  · rw [List.drop_append_of_le_length (by rw [length_bitsL, List.length_take]; omega)]
    rw [List.drop_of_length_le (by rw [length_bitsL, List.length_take]; omega)]
    rfl
  · rw [List.drop_of_length_le (i := k) (by omega)]
    simp only [bitsL, List.flatMap_nil, List.append_nil]
    exact List.drop_of_length_le (by have := length_bitsL (l := X.take k); simp only [bitsL] at this; rw [this, List.length_take]; omega)
theorem bytes_bits {X : List UInt8} : bytesB (bitsL X) = X := by
  refine List.ext_getElem (by rw [length_bytesB, length_bitsL]; omega) fun k h1 h2 => ?_
  rw [length_bytesB, length_bitsL] at h1
  simp only [bytesB, List.getElem_map, List.getElem_range, byteAt]
  rw [drop_bits, List.drop_eq_getElem_cons h2]
  have : (bitsL (X[k] :: X.drop (k + 1))).take 8 = bitsB X[k] := by
    simp only [bitsL, List.flatMap_cons]
    rw [List.take_append_of_le_length (by rw [length_bitsB]; omega), List.take_of_length_le (by rw [length_bitsB]; omega)]
  rw [this, numB_byte]
  exact UInt8.ofNat_toNat
def padB (L : List Nat) : List Nat := L ++ List.replicate (8 * ((L.length + 7) / 8) - L.length) 0
theorem length_padB {L : List Nat} : (padB L).length = 8 * ((L.length + 7) / 8) := by rw [padB, List.length_append, List.length_replicate]; omega
theorem numB_zeros : ∀ (n : Nat), numB (List.replicate n 0) = 0
  | 0 => rfl
  | n + 1 => by rw [List.replicate_succ, numB, numB_zeros n]
theorem bytes_pad {L : List Nat} : bytesB (padB L) = bytesB L := by
  have hl : ((padB L).length + 7) / 8 = (L.length + 7) / 8 := by rw [length_padB]; omega
  unfold bytesB
  rw [hl]
  refine List.map_congr_left fun k hk => ?_
  have hk := List.mem_range.1 hk
  by_cases h : 8 * k + 8 ≤ L.length
  · exact byteAt_append h
  · unfold byteAt padB
    have e : 8 * ((L.length + 7) / 8) - L.length = 8 * k + 8 - L.length := by omega
    rw [List.drop_append_of_le_length (by omega), e, List.take_of_length_le (by rw [List.length_append, List.length_drop, List.length_replicate]; omega), List.take_of_length_le (by rw [List.length_drop]; omega), numB_append, numB_zeros]
    simp
theorem huff_WAlign_h [Tabs Tryz.prog] (B : List UInt8) (hB : B.length ≤ 2000000) (i m : Nat) (hm : m = B.length) :
    HCon Tryz.prog n_huff_Writer_Align [.op 1000 0 0] [.row false (wrR 0 m i), .row (nl0 m) (B.map u8)] (.tup [])
      [(1000, 0, .row false (wrR 0 m (8 * m))), (1001, 0, .row (nl0 m) (B.map u8))] 1 := by
  refine HCon.of' mix Tryz.func79 rfl Tryz.ntmps79 e_huff_Writer_Align r_huff_Writer_Align (by simp) (by simp [AV.gl, AV.gl.glL]) wr_gl ?_
  unfold s_huff_Writer_Align
  have e : (m : Int) * 8 = ((8 * m : Nat) : Int) := by omega
  repeat (first | refine wA ?_ | refine wB ?_ | refine wC rfl ?_ | refine wD rfl ?_ | refine wE ?_ | refine wF (by omega) ?_ | ((first | refine wG ?_ | refine wH ?_ | refine wI ?_ | refine wJ ?_ | refine wK ?_ | refine wL ?_); simp (disch := omega) only [wP, wZ, undef, UInt8.reduceToNat, Nat.reduceOr, Nat.reduceAnd, Nat.reduceXor, Nat.reduceDiv, if_pos, if_neg, aStore, frz, AV.flat, ↓reduceIte, ne_eq, reduceCtorEq, Int.reduceToNat, Nat.reduceEqDiff, Nat.reduceAdd, Nat.reduceSub, Nat.reduceMul, Int.reduceAdd, Int.reduceMul, Int.reduceSub, Int.reduceLT, Int.reduceLE, Int.reduceEq, Int.reduceNe, Nat.reduceLeDiff, Nat.reduceLT, Int.reduceNeg, Nat.reducePow, Nat.reduceMod, ByteArray.size, wrR, iR, e]))
theorem nl0_addB {a : Nat} {y : List UInt8} : (nl0 a && (y.map u8).isEmpty) = nl0 (a + y.length) := by
  cases y with
  | nil => simp
  | cons c y => simp [nl0]
set_option maxRecDepth 100000 in
theorem huff_WRaw_h [Tabs Tryz.prog] (X : List UInt8) (hX : X.length ≤ 1000000) (nl : Bool) (b : List UInt8) (hb : b.length ≤ 1000000) (i m : Nat) (hm : m = X.length) :
    HCon Tryz.prog n_huff_Writer_Raw [.op 1000 0 0, .sl nl none (b.map u8)] [.row false (wrR 0 m i), .row (nl0 m) (X.map u8)] (.tup [])
      [(1000, 0, .row false (wrR 1 (m + b.length) (8 * (m + b.length)))), (1001, 1, .row (nl0 (m + b.length)) ((X ++ b).map u8))] 3 := by
  refine HCon.of' mix Tryz.func81 rfl Tryz.ntmps81 e_huff_Writer_Raw r_huff_Writer_Raw (by simp) (by simp only [AV.gl, AV.gl.glL, and_true]; exact ⟨by omega, glL_of_free _ _ free_u8⟩) wr_gl ?_
  unfold s_huff_Writer_Raw
  have hadd := nl0_addB (a := m) (y := b)
  obtain ⟨B, hB⟩ : ∃ B, B = X ++ b := ⟨_, rfl⟩
  have hBl : B.length = m + b.length := by rw [hB, List.length_append, hm]
  have hrow : X.map u8 ++ b.map u8 = B.map u8 := by rw [hB, List.map_append]
  have al := huff_WAlign_h B (by omega) i (m + b.length) (by omega)
  rw [← hB]
  repeat (first | refine wA ?_ | refine wB ?_ | refine wC rfl ?_ | refine wD rfl ?_ | refine wE ?_ | refine wF (by omega) ?_ | ((first | refine wG ?_ | refine wH ?_ | refine wI ?_ | refine wJ ?_ | refine wK ?_ | refine wL ?_); simp (disch := omega) only [wP, wZ, undef, UInt8.reduceToNat, Nat.reduceOr, Nat.reduceAnd, Nat.reduceXor, Nat.reduceDiv, if_pos, if_neg, aStore, frz, AV.flat, ↓reduceIte, ne_eq, reduceCtorEq, Int.reduceToNat, Nat.reduceEqDiff, Nat.reduceAdd, Nat.reduceSub, Nat.reduceMul, Int.reduceAdd, Int.reduceMul, Int.reduceSub, Int.reduceLT, Int.reduceLE, Int.reduceEq, Int.reduceNe, Nat.reduceLeDiff, Nat.reduceLT, Int.reduceNeg, Nat.reducePow, Nat.reduceMod, ByteArray.size, wrR, hadd, hrow]))
  refine goC_h [(1000, 0), (1001, 1)] 2000 al (by simp) (by simp) ?_ ?_ ?_
  iterate 2 (case _ => simp (disch := omega) only [wP, wZ, undef, UInt8.reduceToNat, Nat.reduceOr, Nat.reduceAnd, Nat.reduceXor, Nat.reduceDiv, if_pos, if_neg, aStore, frz, AV.flat, ↓reduceIte, ne_eq, reduceCtorEq, Int.reduceToNat, Nat.reduceEqDiff, Nat.reduceAdd, Nat.reduceSub, Nat.reduceMul, Int.reduceAdd, Int.reduceMul, Int.reduceSub, Int.reduceLT, Int.reduceLE, Int.reduceEq, Int.reduceNe, Nat.reduceLeDiff, Nat.reduceLT, Int.reduceNeg, Nat.reducePow, Nat.reduceMod, ByteArray.size, wrR, iR])
  repeat (first | refine wA ?_ | refine wB ?_ | refine wC rfl ?_ | refine wD rfl ?_ | refine wE ?_ | refine wF (by omega) ?_ | ((first | refine wG ?_ | refine wH ?_ | refine wI ?_ | refine wJ ?_ | refine wK ?_ | refine wL ?_); simp (disch := omega) only [wP, wZ, undef, UInt8.reduceToNat, Nat.reduceOr, Nat.reduceAnd, Nat.reduceXor, Nat.reduceDiv, if_pos, if_neg, aStore, frz, AV.flat, ↓reduceIte, ne_eq, reduceCtorEq, Int.reduceToNat, Nat.reduceEqDiff, Nat.reduceAdd, Nat.reduceSub, Nat.reduceMul, Int.reduceAdd, Int.reduceMul, Int.reduceSub, Int.reduceLT, Int.reduceLE, Int.reduceEq, Int.reduceNe, Nat.reduceLeDiff, Nat.reduceLT, Int.reduceNeg, Nat.reducePow, Nat.reduceMod, ByteArray.size, wrR, iR]))
end Go.Proofs.YtbcncdpaigljeaaGreatDoor.Aw
namespace Go.Proofs.YtbcncdpaigljeaaGreatDoor.Aw
open Go
set_option linter.unusedSimpArgs false
set_option linter.unusedVariables false
def Rds {α : Type} (t : BT α) (X : List Nat) (a : α) : Prop := ∀ (B R : List Nat) (i : Nat), i ≤ B.length → B.drop i = X ++ R → t.run B i = .ok a (i + X.length)
theorem Rds.ret {α : Type} {a : α} : Rds (.ret a) [] a := fun B R i hi h => rfl
theorem Rds.bnd {α β : Type} {t : BT α} {f : α → BT β} {X Y : List Nat} {a : α} {b : β} (h : Rds t X a) (h2 : Rds (f a) Y b) : Rds (t.bnd f) (X ++ Y) b := fun B R i hi hd => by
  rw [List.append_assoc] at hd
  have hl := congrArg List.length hd
  rw [List.length_drop, List.length_append] at hl
  rw [run_bnd, h B (Y ++ R) i hi hd]
  simp only [BR.bnd]
  rw [h2 B R (i + X.length) (by omega) (by rw [← List.drop_drop, hd, List.drop_left]), List.length_append, Nat.add_assoc]
theorem Rds.bnd0 {α β : Type} {t : BT α} {f : α → BT β} {X : List Nat} {a : α} {b : β} (h : Rds t X a) (h2 : Rds (f a) [] b) : Rds (t.bnd f) X b := by
  have := h.bnd h2
  rwa [List.append_nil] at this
theorem Rds_num {v n : Nat} : Rds (numT n) (digB v n) (v % 2 ^ n) := fun B R i hi hd => by
  have hl := congrArg List.length hd
  rw [List.length_drop, List.length_append, length_digB] at hl
  rw [run_numT hi, if_pos (by omega), hd, List.take_append_of_le_length (by rw [length_digB]; exact Nat.le_refl _), List.take_of_length_le (by rw [length_digB]; exact Nat.le_refl _), numB_dig, length_digB]
end Go.Proofs.YtbcncdpaigljeaaGreatDoor.Aw
namespace Go.Proofs.YtbcncdpaigljeaaGreatDoor.Aw
open Go
set_option linter.unusedSimpArgs false
set_option linter.unusedVariables false
set_option maxRecDepth 100000 in
theorem packer_begin_h [Tabs Tryz.prog] (L : List Nat) (hl : L.length ≤ 1900000) (hL : ∀ x ∈ L, x < 2) (u v : Nat) (hu : u < 2) (hv : v < 4) (i m : Nat) (hi : i = L.length) (hm : m = (L.length + 7) / 8) :
    HCon Tryz.prog n_deflate_packer_begin [.agg [.op 1000 0 0], .sc (.int .i64 (u : Int)), .sc (.int .i64 (v : Int))] [.row false (wrR 0 m i), .row (nl0 m) ((bytesB L).map u8)] (.tup [])
      [(1000, 0, .row false (wrR 123 ((i + 1 + 2 + 7) / 8) (i + 1 + 2))), (1001, 123, .row (nl0 ((i + 1 + 2 + 7) / 8)) ((bytesB (L ++ (digB u 1 ++ digB v 2))).map u8))] 124 := by
  refine HCon.of' mix Tryz.func46 rfl Tryz.ntmps46 e_deflate_packer_begin r_deflate_packer_begin (by simp) (by simp [AV.gl, AV.gl.glL]) wr_gl ?_
  unfold s_deflate_packer_begin
  have p1 := huff_Put_h L (by omega) hL u (by omega) 1 (by omega) i m hi hm
  have hL1 : ∀ x ∈ L ++ digB u 1, x < 2 := fun x hx => (List.mem_append.1 hx).elim (hL x) (digB_lt x)
  have hl1 : (L ++ digB u 1).length = i + 1 := by rw [List.length_append, length_digB, hi]
  have p2 := huff_Put_h (L ++ digB u 1) (by omega) hL1 v (by omega) 2 (by omega) (i + 1) ((i + 1 + 7) / 8) (by omega) (by omega)
  rw [List.append_assoc] at p2
  obtain ⟨b1, e1⟩ : ∃ b, b = bytesB (L ++ digB u 1) := ⟨_, rfl⟩
  obtain ⟨b2, e2⟩ : ∃ b, b = bytesB (L ++ (digB u 1 ++ digB v 2)) := ⟨_, rfl⟩
  rw [← e1] at p1 p2
  rw [← e2] at p2 ⊢
  repeat (first | refine wA ?_ | refine wB ?_ | refine wC rfl ?_ | refine wD rfl ?_ | refine wE ?_ | refine wF (by omega) ?_ | ((first | refine wG ?_ | refine wH ?_ | refine wI ?_ | refine wJ ?_ | refine wK ?_ | refine wL ?_); simp (disch := omega) only [wP, wZ, undef, seval, if_pos, if_neg, aStore, frz, AV.flat, ↓reduceIte, ne_eq, reduceCtorEq, ByteArray.size]))
  refine goC_h [(1000, 0), (1001, 0)] 2000 p1 (by simp) (by simp) ?_ ?_ ?_
  iterate 2 (case _ => simp (disch := omega) only [wP, wZ, undef, seval, if_pos, if_neg, aStore, frz, AV.flat, ↓reduceIte, ne_eq, reduceCtorEq, ByteArray.size, wrR])
  repeat (first | refine wA ?_ | refine wB ?_ | refine wC rfl ?_ | refine wD rfl ?_ | refine wE ?_ | refine wF (by omega) ?_ | ((first | refine wG ?_ | refine wH ?_ | refine wI ?_ | refine wJ ?_ | refine wK ?_ | refine wL ?_); simp (disch := omega) only [wP, wZ, undef, seval, if_pos, if_neg, aStore, frz, AV.flat, ↓reduceIte, ne_eq, reduceCtorEq, ByteArray.size, wrR, iR]))
  refine goC_h [(1000, 0), (1001, 62)] 3000 p2 (by simp) (by simp) ?_ ?_ ?_
  iterate 2 (case _ => simp (disch := omega) only [wP, wZ, undef, seval, if_pos, if_neg, aStore, frz, AV.flat, ↓reduceIte, ne_eq, reduceCtorEq, ByteArray.size, wrR])
  repeat (first | refine wA ?_ | refine wB ?_ | refine wC rfl ?_ | refine wD rfl ?_ | refine wE ?_ | refine wF (by omega) ?_ | ((first | refine wG ?_ | refine wH ?_ | refine wI ?_ | refine wJ ?_ | refine wK ?_ | refine wL ?_); simp (disch := omega) only [wP, wZ, undef, seval, if_pos, if_neg, aStore, frz, AV.flat, ↓reduceIte, ne_eq, reduceCtorEq, ByteArray.size, wrR, iR]))
def blkS (last : Nat) (b : List UInt8) : List UInt8 :=
  UInt8.ofNat last :: UInt8.ofNat (b.length % 256) :: UInt8.ofNat (b.length / 256) :: UInt8.ofNat ((65535 - b.length) % 256) :: UInt8.ofNat ((65535 - b.length) / 256) :: b
theorem bits_one {X : List UInt8} {c : UInt8} : bitsL (X ++ [c]) = bitsL X ++ bitsB c := by rw [bitsL_append]; simp [bitsL]
theorem bytes_head {X : List UInt8} {u : Nat} (hu : u < 2) : bytesB (bitsL X ++ (digB u 1 ++ digB 0 2)) = X ++ [UInt8.ofNat u] := by
  rw [← bytes_pad]
  have hl : (bitsL X ++ (digB u 1 ++ digB 0 2)).length = 8 * X.length + 3 := by rw [List.length_append, length_bitsL, List.length_append, length_digB, length_digB]
  have : padB (bitsL X ++ (digB u 1 ++ digB 0 2)) = bitsL (X ++ [UInt8.ofNat u]) := by
    unfold padB
    rw [hl, show 8 * ((8 * X.length + 3 + 7) / 8) - (8 * X.length + 3) = 5 by omega, bits_one, List.append_assoc]
    congr 1
    obtain rfl | rfl : u = 0 ∨ u = 1 := by omega
    · decide
    · decide
  rw [this, bytes_bits]
theorem dig16 {n : Nat} (h : n < 65536) : digB n 16 = bitsB (UInt8.ofNat (n % 256)) ++ bitsB (UInt8.ofNat (n / 256)) := by
  have e1 : (UInt8.ofNat (n % 256)).toNat = n % 256 := by rw [UInt8.toNat_ofNat']; omega
  have e2 : (UInt8.ofNat (n / 256)).toNat = n / 256 := by rw [UInt8.toNat_ofNat']; omega
  refine List.ext_getElem (by simp [digB, bitsB]) fun k h1 h2 => ?_
  have hk : k < 16 := by simpa [digB] using h1
  simp only [digB, List.getElem_map, List.getElem_range]
  by_cases c : k < 8
  · rw [List.getElem_append_left (by rw [length_bitsB]; exact c)]
    simp only [bitsB, List.getElem_map, List.getElem_range, e1]
    have h8 : 2 ^ k * 2 ^ (8 - k) = 256 := by rw [← Nat.pow_add, show k + (8 - k) = 8 by omega]
    rw [← h8, Nat.mod_mul_right_div_self]
    rw [show 8 - k = (7 - k) + 1 by omega, Nat.pow_succ, Nat.mul_comm, Nat.mod_mul_right_mod]
  · rw [List.getElem_append_right (by rw [length_bitsB]; omega)]
    simp only [bitsB, List.getElem_map, List.getElem_range, e2, List.length_map, List.length_range]
    have h8 : 256 * 2 ^ (k - 8) = 2 ^ k := by rw [show (256 : Nat) = 2 ^ 8 from rfl, ← Nat.pow_add, show 8 + (k - 8) = k by omega]
    rw [Nat.div_div_eq_div_mul, h8]
theorem bits_two {X : List UInt8} {n : Nat} (h : n < 65536) : bitsL X ++ digB n 16 = bitsL (X ++ [UInt8.ofNat (n % 256), UInt8.ofNat (n / 256)]) := by
  rw [dig16 h, bitsL_append]
  simp [bitsL]
set_option maxRecDepth 100000 in
theorem packer_storedBlock_h [Tabs Tryz.prog] (X : List UInt8) (hX : X.length ≤ 200000) (u : Nat) (hu : u < 2) (nl : Bool) (b : List UInt8) (hb : b.length ≤ 65535) (i m m' : Nat) (hm : m = X.length) (hi : i = 8 * m) (hm' : m' = m + 5 + b.length) :
    HCon Tryz.prog n_deflate_packer_storedBlock [.agg [.op 1000 0 0], .sc (.int .i64 (u : Int)), .sl nl none (b.map u8)] [.row false (wrR 0 m i), .row (nl0 m) (X.map u8)] (.tup [])
      [(1000, 0, .row false (wrR 250 m' (8 * m'))), (1001, 250, .row (nl0 m') ((X ++ blkS u b).map u8))] 252 := by
  refine HCon.of' mix Tryz.func45 rfl Tryz.ntmps45 e_deflate_packer_storedBlock r_deflate_packer_storedBlock (by simp) (by simp only [AV.gl, AV.gl.glL, and_true, true_and]; exact ⟨by omega, glL_of_free _ _ free_u8⟩) wr_gl ?_
  unfold s_deflate_packer_storedBlock
  obtain ⟨n, hn⟩ : ∃ n, n = b.length := ⟨_, rfl⟩
  have p1 := packer_begin_h (bitsL X) (by rw [length_bitsL]; omega) bitsL_lt u 0 hu (by omega) i m (by rw [length_bitsL]; omega) (by rw [length_bitsL]; omega)
  rw [bytes_bits, bytes_head hu] at p1
  obtain ⟨X1, hX1⟩ : ∃ Y, Y = X ++ [UInt8.ofNat u] := ⟨_, rfl⟩
  have l1 : X1.length = m + 1 := by rw [hX1]; simp [hm]
  have em1 : (i + 1 + 2 + 7) / 8 = m + 1 := by omega
  rw [← hX1, em1] at p1
  have p2 := huff_WAlign_h X1 (by omega) (i + 1 + 2) (m + 1) l1.symm
  have p3 := huff_Put_h (bitsL X1) (by rw [length_bitsL]; omega) bitsL_lt n (by omega) 16 (by omega) (8 * (m + 1)) (m + 1) (by rw [length_bitsL]; omega) (by rw [length_bitsL]; omega)
  rw [bytes_bits, bits_two (by omega), bytes_bits] at p3
  obtain ⟨X2, hX2⟩ : ∃ Y, Y = X1 ++ [UInt8.ofNat (n % 256), UInt8.ofNat (n / 256)] := ⟨_, rfl⟩
  have l2 : X2.length = m + 3 := by rw [hX2]; simp [l1]
  have em2 : (8 * (m + 1) + 16 + 7) / 8 = m + 3 := by omega
  have ei2 : 8 * (m + 1) + 16 = 8 * (m + 3) := by omega
  rw [← hX2, em2, ei2] at p3
  have p4 := huff_Put_h (bitsL X2) (by rw [length_bitsL]; omega) bitsL_lt (65535 - n) (by omega) 16 (by omega) (8 * (m + 3)) (m + 3) (by rw [length_bitsL]; omega) (by rw [length_bitsL]; omega)
  rw [bytes_bits, bits_two (by omega), bytes_bits] at p4
  obtain ⟨X3, hX3⟩ : ∃ Y, Y = X2 ++ [UInt8.ofNat ((65535 - n) % 256), UInt8.ofNat ((65535 - n) / 256)] := ⟨_, rfl⟩
  have l3 : X3.length = m + 5 := by rw [hX3]; simp [l2]
  have em3 : (8 * (m + 3) + 16 + 7) / 8 = m + 5 := by omega
  have ei3 : 8 * (m + 3) + 16 = 8 * (m + 5) := by omega
  rw [← hX3, em3, ei3] at p4
  have p5 := huff_WRaw_h X3 (by omega) nl b (by omega) (8 * (m + 5)) (m + 5) l3.symm
  have hfin : X3 ++ b = X ++ blkS u b := by rw [hX3, hX2, hX1, hn]; simp [blkS]
  rw [hfin, ← hm'] at p5
  obtain ⟨Y, hY⟩ : ∃ Y, Y = X ++ blkS u b := ⟨_, rfl⟩
  rw [← hY] at p5 ⊢
  obtain ⟨n', hn'⟩ : ∃ n', n' = 65535 - n := ⟨_, rfl⟩
  have en : (65535 : Int) - (n : Int) = (n' : Int) := by omega
  rw [← hn'] at p4
  clear hfin hY hX3 hX2 hX1
  repeat (first | refine wA ?_ | refine wB ?_ | refine wC rfl ?_ | refine wD rfl ?_ | refine wE ?_ | refine wF (by omega) ?_ | ((first | refine wG ?_ | refine wH ?_ | refine wI ?_ | refine wJ ?_ | refine wK ?_ | refine wL ?_); simp (disch := omega) only [wP, wZ, undef, seval, if_pos, if_neg, aStore, frz, AV.flat, ↓reduceIte, ne_eq, reduceCtorEq, ByteArray.size]))
  refine goC_h [(1000, 0), (1001, 0)] 2000 p1 (by simp) (by simp) ?_ ?_ ?_
  iterate 2 (case _ => simp (disch := omega) only [wP, wZ, undef, seval, if_pos, if_neg, aStore, frz, AV.flat, ↓reduceIte, ne_eq, reduceCtorEq, ByteArray.size, wrR])
  repeat (first | refine wA ?_ | refine wB ?_ | refine wC rfl ?_ | refine wD rfl ?_ | refine wE ?_ | refine wF (by omega) ?_ | ((first | refine wG ?_ | refine wH ?_ | refine wI ?_ | refine wJ ?_ | refine wK ?_ | refine wL ?_); simp (disch := omega) only [wP, wZ, undef, seval, if_pos, if_neg, aStore, frz, AV.flat, ↓reduceIte, ne_eq, reduceCtorEq, ByteArray.size, wrR, iR]))
  refine goC_h [(1000, 0), (1001, 125)] 3000 p2 (by simp) (by simp) ?_ ?_ ?_
  iterate 2 (case _ => simp (disch := omega) only [wP, wZ, undef, seval, if_pos, if_neg, aStore, frz, AV.flat, ↓reduceIte, ne_eq, reduceCtorEq, ByteArray.size, wrR])
  repeat (first | refine wA ?_ | refine wB ?_ | refine wC rfl ?_ | refine wD rfl ?_ | refine wE ?_ | refine wF (by omega) ?_ | ((first | refine wG ?_ | refine wH ?_ | refine wI ?_ | refine wJ ?_ | refine wK ?_ | refine wL ?_); simp (disch := omega) only [wP, wZ, undef, seval, if_pos, if_neg, aStore, frz, AV.flat, ↓reduceIte, ne_eq, reduceCtorEq, ByteArray.size, wrR, iR, List.length_map, ← hn]))
  refine goC_h [(1000, 0), (1001, 125)] 4000 p3 (by simp) (by simp) ?_ ?_ ?_
  iterate 2 (case _ => simp (disch := omega) only [wP, wZ, undef, seval, if_pos, if_neg, aStore, frz, AV.flat, ↓reduceIte, ne_eq, reduceCtorEq, ByteArray.size, wrR])
  repeat (first | refine wA ?_ | refine wB ?_ | refine wC rfl ?_ | refine wD rfl ?_ | refine wE ?_ | refine wF (by omega) ?_ | ((first | refine wG ?_ | refine wH ?_ | refine wI ?_ | refine wJ ?_ | refine wK ?_ | refine wL ?_); simp (disch := omega) only [wP, wZ, undef, seval, if_pos, if_neg, aStore, frz, AV.flat, ↓reduceIte, ne_eq, reduceCtorEq, ByteArray.size, wrR, iR, List.length_map, ← hn, en]))
  refine goC_h [(1000, 0), (1001, 187)] 5000 p4 (by simp) (by simp) ?_ ?_ ?_
  iterate 2 (case _ => simp (disch := omega) only [wP, wZ, undef, seval, if_pos, if_neg, aStore, frz, AV.flat, ↓reduceIte, ne_eq, reduceCtorEq, ByteArray.size, wrR])
  repeat (first | refine wA ?_ | refine wB ?_ | refine wC rfl ?_ | refine wD rfl ?_ | refine wE ?_ | refine wF (by omega) ?_ | ((first | refine wG ?_ | refine wH ?_ | refine wI ?_ | refine wJ ?_ | refine wK ?_ | refine wL ?_); simp (disch := omega) only [wP, wZ, undef, seval, if_pos, if_neg, aStore, frz, AV.flat, ↓reduceIte, ne_eq, reduceCtorEq, ByteArray.size, wrR, iR]))
  refine goC_h [(1000, 0), (1001, 248)] 6000 p5 (by simp) (by simp) ?_ ?_ ?_
  iterate 2 (case _ => simp (disch := omega) only [wP, wZ, undef, seval, if_pos, if_neg, aStore, frz, AV.flat, ↓reduceIte, ne_eq, reduceCtorEq, ByteArray.size, wrR])
  repeat (first | refine wA ?_ | refine wB ?_ | refine wC rfl ?_ | refine wD rfl ?_ | refine wE ?_ | refine wF (by omega) ?_ | ((first | refine wG ?_ | refine wH ?_ | refine wI ?_ | refine wJ ?_ | refine wK ?_ | refine wL ?_); simp (disch := omega) only [wP, wZ, undef, seval, if_pos, if_neg, aStore, frz, AV.flat, ↓reduceIte, ne_eq, reduceCtorEq, ByteArray.size, wrR, iR]))
def stK (b : List UInt8) : Nat → List UInt8
  | 0 => []
  | k + 1 => stK b k ++ blkS 0 ((b.drop (65535 * k)).take 65535)
def stL (b : List UInt8) : List UInt8 := stK b ((b.length - 1) / 65535) ++ blkS 1 (b.drop (65535 * ((b.length - 1) / 65535)))
theorem length_blkS {u : Nat} {b : List UInt8} : (blkS u b).length = b.length + 5 := rfl
theorem length_stK {b : List UInt8} : ∀ {k : Nat}, 65535 * k ≤ b.length → (stK b k).length = 65540 * k
  | 0, _ => rfl
  | k + 1, h => by rw [stK, List.length_append, length_stK (by omega), length_blkS, List.length_take, List.length_drop]; omega
set_option maxRecDepth 100000 in
theorem packer_stored_h [Tabs Tryz.prog] (nl : Bool) (b : List UInt8) (hb : b.length ≤ 170000) (m' : Nat) (hm' : m' = (stL b).length) :
    HCon Tryz.prog n_deflate_packer_stored [.agg [.op 1000 0 0], .sl nl none (b.map u8)] [.row false (wrR 0 0 0), .row true []] (.tup [])
      [(1000, 0, .row false (wrR 2251 m' (8 * m'))), (1001, 2251, .row (nl0 m') ((stL b).map u8))] 2253 := by
  refine HCon.of' mix Tryz.func20 rfl Tryz.ntmps20 e_deflate_packer_stored r_deflate_packer_stored (by simp) (by simp only [AV.gl, AV.gl.glL, and_true, true_and]; exact ⟨by omega, glL_of_free _ _ free_u8⟩) (wr_gl (b := [])) ?_
  unfold s_deflate_packer_stored
  obtain ⟨n, hn⟩ : ∃ n, n = b.length := ⟨_, rfl⟩
  obtain ⟨Q, hQ⟩ : ∃ Q, Q = (n - 1) / 65535 := ⟨_, rfl⟩
  have hstL : stL b = stK b Q ++ blkS 1 (b.drop (65535 * Q)) := by rw [stL, ← hn, ← hQ]
  repeat (first | refine wA ?_ | refine wB ?_ | refine wC rfl ?_ | refine wD rfl ?_ | refine wE ?_ | refine wF (by omega) ?_ | ((first | refine wG ?_ | refine wH ?_ | refine wI ?_ | refine wJ ?_ | refine wK ?_ | refine wL ?_); simp (disch := omega) only [wP, wZ, undef, seval, if_pos, if_neg, aStore, frz, AV.flat, ↓reduceIte, ne_eq, reduceCtorEq, ByteArray.size]))
  refine SWp.loop (α := Nat × Nat × Nat) (fun x => mk 16 x.2.2 [(1, .sl nl none ((b.drop (65535 * x.1)).map u8)), (2, .op 2 1 0)] [(2, 1, .row false [.op 1000 0 0]), (1000, 0, .row false (wrR x.2.1 (65540 * x.1) (8 * (65540 * x.1)))), (1001, x.2.1, .row (nl0 (65540 * x.1)) ((stK b x.1).map u8))])
    (fun x => x.1 ≤ Q ∧ x.2.2 ≤ 2 + 252 * x.1) (fun x => Q - x.1) (0, 0, 2) ⟨Nat.zero_le _, by simp⟩ (le_mk rfl ?_ ?_ ?_) ?_
  · exact Nat.le_refl _
  iterate 2 (case _ => simp (disch := omega) only [wP, wZ, undef, seval, if_pos, if_neg, aStore, frz, AV.flat, ↓reduceIte, ne_eq, reduceCtorEq, ByteArray.size, wrR, stK, nl0_zero])
  rintro ⟨k, g, gc⟩ ⟨hk, hgc⟩ -
  simp only at hk hgc
  obtain ⟨r, hr⟩ : ∃ r, r = b.drop (65535 * k) := ⟨_, rfl⟩
  have hrl : r.length = n - 65535 * k := by rw [hr, List.length_drop, hn]
  have hkn : 65535 * k ≤ n := by omega
  have hkl : (stK b k).length = 65540 * k := length_stK (by omega)
  obtain ⟨X, hX⟩ : ∃ X, X = stK b k := ⟨_, rfl⟩
  obtain ⟨m, hm⟩ : ∃ m, m = 65540 * k := ⟨_, rfl⟩
  rw [← hX, ← hm] at hkl
  simp only [← hr, ← hX, ← hm]
  by_cases ck : 65535 < r.length
  · have dk : decide ((65535 : Int) < (r.length : Int)) = true := decide_eq_true (by omega)
    have p1 := packer_storedBlock_h X (by omega) 0 (by omega) nl (r.take 65535) (by rw [List.length_take]; omega) (8 * m) m (m + 65540) hkl.symm rfl (by rw [List.length_take]; omega)
    have hs1 : X ++ blkS 0 (r.take 65535) = stK b (k + 1) := by rw [stK, ← hX, ← hr]
    rw [hs1] at p1
    have hd : r.drop 65535 = b.drop (65535 * (k + 1)) := by rw [hr, List.drop_drop]; congr 1
    have hm1 : 65540 * (k + 1) = m + 65540 := by omega
    repeat (first | refine wA ?_ | refine wB ?_ | refine wC rfl ?_ | refine wD rfl ?_ | refine wE ?_ | refine wF (by omega) ?_ | ((first | refine wG ?_ | refine wH ?_ | refine wI ?_ | refine wJ ?_ | refine wK ?_ | refine wL ?_); simp (disch := omega) only [wP, wZ, undef, seval, if_pos, if_neg, aStore, frz, AV.flat, ↓reduceIte, ne_eq, reduceCtorEq, ByteArray.size, List.length_map, dk]))
    refine goC_h [(1000, 0), (1001, g)] 2000 p1 (by simp) (by simp) ?_ ?_ ?_
    iterate 2 (case _ => simp (disch := omega) only [wP, wZ, undef, seval, if_pos, if_neg, aStore, frz, AV.flat, ↓reduceIte, ne_eq, reduceCtorEq, ByteArray.size, wrR])
    repeat (first | refine wA ?_ | refine wB ?_ | refine wC rfl ?_ | refine wD rfl ?_ | refine wE ?_ | refine wF (by omega) ?_ | ((first | refine wG ?_ | refine wH ?_ | refine wI ?_ | refine wJ ?_ | refine wK ?_ | refine wL ?_); simp (disch := omega) only [wP, wZ, undef, seval, if_pos, if_neg, aStore, frz, AV.flat, ↓reduceIte, ne_eq, reduceCtorEq, ByteArray.size, wrR, iR, List.length_map]))
    refine At.of (k + 1, gc + 250, gc + 252) ⟨by simp only; omega, by simp only; omega⟩ (by simp only; omega) rfl rfl (Nat.le_refl _) ?_ ?_
    iterate 2 (case _ => simp (disch := omega) only [wP, wZ, undef, seval, if_pos, if_neg, aStore, frz, AV.flat, ↓reduceIte, ne_eq, reduceCtorEq, ByteArray.size, hd, wrR, hm1])
  · have dk : decide ((65535 : Int) < (r.length : Int)) = false := decide_eq_false (by omega)
    obtain rfl : k = Q := by omega
    have p1 := packer_storedBlock_h X (by omega) 1 (by omega) nl r (by omega) (8 * m) m m' hkl.symm rfl (by rw [hm', hstL, ← hX, ← hr, List.length_append, length_blkS]; omega)
    rw [hr, hX, ← hstL, ← hX, ← hr] at p1
    iterate 5 (first | refine wA ?_ | refine wB ?_ | refine wC rfl ?_ | refine wD rfl ?_ | refine wE ?_ | refine wF (by omega) ?_ | ((first | refine wG ?_ | refine wH ?_ | refine wI ?_ | refine wJ ?_ | refine wK ?_ | refine wL ?_); simp (disch := omega) only [wP, wZ, undef, seval, if_pos, if_neg, aStore, frz, AV.flat, ↓reduceIte, ne_eq, reduceCtorEq, ByteArray.size, List.length_map, dk]))
    refine SWp.le (le_mk (N := 16) (gc := 2000) (l := [(1, .sl nl none (r.map u8)), (2, .op 2 1 0)]) (h := [(2, 1, .row false [.op 1000 0 0]), (1000, 0, .row false (wrR g m (8 * m))), (1001, g, .row (nl0 m) (X.map u8))]) rfl ?_ ?_ ?_) ?_
    · simp (disch := omega) only [wP, wZ, undef, seval, if_pos, if_neg, aStore, frz, AV.flat, ↓reduceIte, ne_eq, reduceCtorEq, ByteArray.size]
      omega
    iterate 2 (case _ => simp (disch := omega) only [wP, wZ, undef, seval, if_pos, if_neg, aStore, frz, AV.flat, ↓reduceIte, ne_eq, reduceCtorEq, ByteArray.size])
    refine SWp.renew 1001 g (o := .row (nl0 m) (X.map u8)) (by simp (disch := omega) only [wP, wZ, undef, seval, if_pos, if_neg, aStore, frz, AV.flat, ↓reduceIte, ne_eq, reduceCtorEq, ByteArray.size]) ?_
    refine SWp.le (le_mk (N := 16) (gc := 2001) (l := [(1, .sl nl none (r.map u8)), (2, .op 2 1 0)]) (h := [(2, 1, .row false [.op 1000 0 0]), (1000, 0, .row false (wrR 2000 m (8 * m))), (1001, 2000, .row (nl0 m) (X.map u8))]) rfl ?_ ?_ ?_) ?_
    iterate 3 (case _ => simp (disch := omega) only [wP, wZ, undef, seval, if_pos, if_neg, aStore, frz, AV.flat, ↓reduceIte, ne_eq, reduceCtorEq, ByteArray.size, rgn_eq, wrR, rgH_at])
    repeat (first | refine wA ?_ | refine wB ?_ | refine wC rfl ?_ | refine wD rfl ?_ | refine wE ?_ | refine wF (by omega) ?_ | ((first | refine wG ?_ | refine wH ?_ | refine wI ?_ | refine wJ ?_ | refine wK ?_ | refine wL ?_); simp (disch := omega) only [wP, wZ, undef, seval, if_pos, if_neg, aStore, frz, AV.flat, ↓reduceIte, ne_eq, reduceCtorEq, ByteArray.size, List.length_map]))
    refine goC_h [(1000, 0), (1001, 2000)] 3000 p1 (by simp) (by simp) ?_ ?_ ?_
    iterate 2 (case _ => simp (disch := omega) only [wP, wZ, undef, seval, if_pos, if_neg, aStore, frz, AV.flat, ↓reduceIte, ne_eq, reduceCtorEq, ByteArray.size, wrR])
    repeat (first | refine wA ?_ | refine wB ?_ | refine wC rfl ?_ | refine wD rfl ?_ | refine wE ?_ | refine wF (by omega) ?_ | ((first | refine wG ?_ | refine wH ?_ | refine wI ?_ | refine wJ ?_ | refine wK ?_ | refine wL ?_); simp (disch := omega) only [wP, wZ, undef, seval, if_pos, if_neg, aStore, frz, AV.flat, ↓reduceIte, ne_eq, reduceCtorEq, ByteArray.size, wrR, iR]))
end Go.Proofs.YtbcncdpaigljeaaGreatDoor.Aw
namespace Go.Proofs.YtbcncdpaigljeaaGreatDoor.Aw
open Go
set_option linter.unusedSimpArgs false
set_option linter.unusedVariables false
theorem Rds_byt : ∀ {c : List UInt8}, Rds (bytT c.length) (bitsL c) c
  | [] => Rds.ret
  | x :: c => by
    have e : bitsL (x :: c) = digB x.toNat 8 ++ bitsL c := rfl
    rw [e, List.length_cons, bytT]
    have hn := Rds_num (v := x.toNat) (n := 8)
    rw [Nat.mod_eq_of_lt x.toNat_lt] at hn
    refine hn.bnd (Rds.bnd0 (a := c) Rds_byt ?_)
    rw [UInt8.ofNat_toNat]
    exact Rds.ret
theorem blk_bits {u : Nat} (hu : u < 2) {c : List UInt8} (hc : c.length ≤ 65535) : bitsL (blkS u c) = digB u 3 ++ (digB 0 5 ++ (digB c.length 16 ++ (digB (65535 - c.length) 16 ++ bitsL c))) := by
  rw [dig16 (show c.length < 65536 by omega), dig16 (show 65535 - c.length < 65536 by omega)]
  have e1 : bitsB (UInt8.ofNat u) = digB u 3 ++ digB 0 5 := by
    obtain rfl | rfl : u = 0 ∨ u = 1 := by omega
    · decide
    · decide
  rw [blkS]
  simp only [bitsL, List.flatMap_cons, e1, List.append_assoc]
theorem blk_run {most F : Nat} {out : List UInt8} {u : Nat} (hu : u < 2) {c : List UInt8} (hc : c.length ≤ 65535) (hm : out.length + c.length ≤ most) {B R : List Nat} {j : Nat} (hj : 8 * j ≤ B.length) (hd : B.drop (8 * j) = bitsL (blkS u c) ++ R) :
    (blkT most F out).run B (8 * j) = .ok (decide (u % 2 = 1), out ++ c) (8 * (j + 5 + c.length)) := by
  rw [blk_bits hu hc] at hd
  have hl := congrArg List.length hd
  simp only [List.length_drop, List.length_append, length_digB, length_bitsL] at hl
  have h3 := Rds_num (v := u) (n := 3) B (digB 0 5 ++ (digB c.length 16 ++ (digB (65535 - c.length) 16 ++ bitsL c)) ++ R) (8 * j) hj (by rw [hd]; simp only [List.append_assoc])
  rw [Nat.mod_eq_of_lt (show u < 2 ^ 3 by omega), length_digB] at h3
  rw [blkT, run_bnd, h3]
  simp only [BR.bnd]
  rw [run_bnd, bodT, if_pos (by omega), stoT, BT.run]
  rw [show (8 * j + 3 + 7) / 8 * 8 - (8 * j + 3) = 5 by omega]
  have hb : Rds ((numT 5).bnd fun _ => (numT 16).bnd fun n => (numT 16).bnd fun m => if n + m ≠ 65535 then .err 3 else (bytT n).bnd fun bs => if most < out.length + n then .err 4 else .ret (out ++ bs)) (digB 0 5 ++ (digB c.length 16 ++ (digB (65535 - c.length) 16 ++ bitsL c))) (out ++ c) := by
    refine Rds_num.bnd ?_
    have n1 := Rds_num (v := c.length) (n := 16)
    rw [Nat.mod_eq_of_lt (show c.length < 2 ^ 16 by omega)] at n1
    refine n1.bnd ?_
    have n2 := Rds_num (v := 65535 - c.length) (n := 16)
    rw [Nat.mod_eq_of_lt (show 65535 - c.length < 2 ^ 16 by omega)] at n2
    refine n2.bnd ?_
    rw [if_neg (by omega)]
    refine Rds_byt.bnd0 ?_
    rw [if_neg (by omega)]
    exact Rds.ret
  rw [hb B R (8 * j + 3) (by omega) (by rw [← List.drop_drop, hd]; simp only [List.append_assoc]; rw [List.drop_append_of_le_length (by rw [length_digB]; exact Nat.le_refl _), List.drop_of_length_le (by rw [length_digB]; exact Nat.le_refl _), List.nil_append])]
  simp only [BR.bnd, BT.run, List.length_append, length_digB, length_bitsL]
  congr 1
  omega
end Go.Proofs.YtbcncdpaigljeaaGreatDoor.Aw
namespace Go.Proofs.YtbcncdpaigljeaaGreatDoor.Aw
open Go
set_option linter.unusedSimpArgs false
set_option linter.unusedVariables false
theorem k2 : AV.sc (.int .u32 2) = w32 2 := rfl
theorem step_inj {c d : UInt32} (h : crcStep c = crcStep d) : c = d := by
  have hc := c.toNat_lt
  have hd := d.toNat_lt
  have top : ∀ x : UInt32, (UInt32.ofNat (x.toNat / 2)).toNat = x.toNat / 2 := fun x => by
    have := x.toNat_lt
    rw [UInt32.toNat_ofNat', Nat.mod_eq_of_lt (by omega)]
  have bit : ∀ x : UInt32, (crcStep x).toNat.testBit 31 = !decide (x &&& 1 = 0) := fun x => by
    have hx := x.toNat_lt
    have hf : (x.toNat / 2).testBit 31 = false := Nat.testBit_lt_two_pow (by omega)
    unfold crcStep
    by_cases e : x &&& 1 = 0
    · rw [if_pos e, top, hf, decide_eq_true e]; rfl
    · rw [if_neg e, UInt32.toNat_xor, top, Nat.testBit_xor, hf, decide_eq_false e]; decide
  have hb : decide (c &&& 1 = 0) = decide (d &&& 1 = 0) := by
    have h1 := bit c
    rw [h, bit d] at h1
    simpa using h1.symm
  have half : c.toNat / 2 = d.toNat / 2 := by
    unfold crcStep at h
    by_cases e : c &&& 1 = 0
    · have e' : d &&& 1 = 0 := by rw [decide_eq_true e] at hb; exact of_decide_eq_true hb.symm
      rw [if_pos e, if_pos e'] at h
      rw [← top c, ← top d, h]
    · have e' : ¬ d &&& 1 = 0 := by rw [decide_eq_false e] at hb; exact of_decide_eq_false hb.symm
      rw [if_neg e, if_neg e'] at h
      have := congrArg (· ^^^ (3988292384 : UInt32)) h
      simp only [UInt32.xor_assoc, UInt32.xor_self, UInt32.xor_zero] at this
      rw [← top c, ← top d, this]
  have odd : c.toNat % 2 = d.toNat % 2 := by
    have g : ∀ x : UInt32, (x &&& 1).toNat = x.toNat % 2 := fun x => by rw [UInt32.toNat_and]; exact Nat.and_one_is_mod _
    have z : ∀ x : UInt32, x &&& 1 = 0 ↔ x.toNat % 2 = 0 := fun x => by rw [← UInt32.toNat_inj, g]; rfl
    have := decide_eq_decide.1 hb
    rw [z, z] at this
    omega
  exact UInt32.toNat_inj.1 (by omega)
theorem crcN_inj {c d : UInt32} : ∀ k, crcN c k = crcN d k → c = d
  | 0, h => h
  | k + 1, h => crcN_inj k (step_inj h)
theorem crcL_inj {c d : UInt32} (l : List UInt8) (h : crcL c l = crcL d l) : c = d := by
  induction l generalizing c d with
  | nil => exact h
  | cons b l ih =>
    have := crcN_inj 8 (ih h)
    have := congrArg (· ^^^ UInt32.ofNat b.toNat) this
    simpa [UInt32.xor_assoc] using this
theorem crc_other (l : List UInt8) (k : Nat) (hk : k < l.length) (b : UInt8) (hb : b ≠ l.getD k 0) : crcMore 0 (l.set k b) ≠ crcMore 0 l := by
  intro h
  have h1 : crcL (~~~0) (l.set k b) = crcL (~~~0) l := by
    have := congrArg (~~~ ·) h
    simpa [crcMore] using this
  have e1 : l.set k b = l.take k ++ b :: l.drop (k + 1) := by rw [List.set_eq_take_append_cons_drop, if_pos hk]
  have e2 : l = l.take k ++ l.getD k 0 :: l.drop (k + 1) := by
    have hg : l.getD k 0 = l[k] := by simp [List.getD, List.getElem?_eq_getElem hk]
    rw [hg, ← List.drop_eq_getElem_cons hk, List.take_append_drop]
  rw [e1, crcL_append] at h1
  conv at h1 => rhs; rw [e2]
  rw [crcL_append] at h1
  have h2 : crcL (crcByte (crcL (~~~0) (l.take k)) b) (l.drop (k + 1)) = crcL (crcByte (crcL (~~~0) (l.take k)) (l.getD k 0)) (l.drop (k + 1)) := h1
  have h3 := crcN_inj 8 (crcL_inj _ h2)
  have h4 := congrArg ((crcL (~~~0) (l.take k)) ^^^ ·) h3
  simp only [← UInt32.xor_assoc, UInt32.xor_self, UInt32.zero_xor] at h4
  have h5 := congrArg UInt32.toNat h4
  have := b.toNat_lt
  have := (l.getD k 0).toNat_lt
  rw [UInt32.toNat_ofNat', UInt32.toNat_ofNat', Nat.mod_eq_of_lt (by omega), Nat.mod_eq_of_lt (by omega)] at h5
  exact hb (UInt8.toNat_inj.1 h5)
end Go.Proofs.YtbcncdpaigljeaaGreatDoor.Aw
namespace Go.Proofs.YtbcncdpaigljeaaGreatDoor.Aw
open Go
set_option linter.unusedSimpArgs false
set_option linter.unusedVariables false
theorem stL_one {b : List UInt8} (h : b.length ≤ 65535) : stL b = blkS 1 b := by
  rw [stL, show (b.length - 1) / 65535 = 0 by omega]
  simp [stK]
theorem inf_one {c R : List UInt8} (hc : c.length ≤ 65535) {most F : Nat} (hm : c.length ≤ most) (hF : 0 < F) : infR F (blkS 1 c ++ R) most = (c, c.length + 5, 0) := by
  obtain ⟨F, rfl⟩ : ∃ f, F = f + 1 := ⟨F - 1, by omega⟩
  have h := blk_run (most := most) (F := F + 1) (out := []) (u := 1) (by omega) hc (by simpa using hm) (B := bitsL (blkS 1 c ++ R)) (R := bitsL R) (j := 0) (Nat.zero_le _) (by rw [Nat.mul_zero, List.drop_zero, bitsL_append])
  rw [Nat.mul_zero] at h
  rw [infR, infT, run_bnd, h]
  simp only [BR.bnd]
  rw [if_pos (by decide), BT.run, gotR]
  simp only [List.nil_append, Prod.mk.injEq, true_and, and_true]
  omega
theorem le4_inj {m n : Nat} (hm : m < 4294967296) (hn : n < 4294967296) (h : leB m 4 = leB n 4) : m = n := by
  rw [← leN_le4 hm, ← leN_le4 hn, h]
theorem tlB_len {b : List UInt8} : (tlB b).length = 8 := by rw [tlB, List.length_append, length_leB4, length_leB4]
theorem tlB_other {b : List UInt8} {i : Nat} (hi : i < b.length) {v : UInt8} (hv : v ≠ b.getD i 0) : tlB b ≠ tlB (b.set i v) := by
  intro h
  have h1 := congrArg (·.take 4) h
  simp only [tlB] at h1
  rw [List.take_append_of_le_length (by rw [length_leB4]; exact Nat.le_refl _), List.take_append_of_le_length (by rw [length_leB4]; exact Nat.le_refl _), List.take_of_length_le (by rw [length_leB4]; exact Nat.le_refl _), List.take_of_length_le (by rw [length_leB4]; exact Nat.le_refl _)] at h1
  have h2 := le4_inj (crcMore 0 b).toNat_lt (crcMore 0 (b.set i v)).toNat_lt h1
  exact crc_other b i hi v hv (UInt32.toNat_inj.1 h2.symm)
theorem set_other {t : List UInt8} {i : Nat} (hi : i < t.length) {v : UInt8} (hv : v ≠ t.getD i 0) : t.set i v ≠ t := by
  intro h
  have := congrArg (fun l => l.getD i 0) h
  simp only [List.getD, List.getElem?_set_self hi, Option.getD_some] at this
  exact hv this
theorem turned {D : List UInt8} (hD : D.length ≤ 65535) {i : Nat} (hi : i < D.length + 8) {v : UInt8} (hv : v ≠ (hdB [] 0 ++ (blkS 1 D ++ tlB D)).getD (15 + i) 0) :
    ∃ D' T', (hdB [] 0 ++ (blkS 1 D ++ tlB D)).set (15 + i) v = hdB [] 0 ++ (blkS 1 D' ++ T') ∧ D'.length = D.length ∧ T'.length = 8 ∧ T' ≠ tlB D' := by
  have hh : (hdB [] 0).length = 10 := by rw [hdB, leB4]; rfl
  obtain ⟨H5, h5, hb⟩ : ∃ H5 : List UInt8, H5.length = 5 ∧ ∀ X : List UInt8, X.length = D.length → blkS 1 X = H5 ++ X := by
    refine ⟨(blkS 1 D).take 5, by simp [blkS], fun X hX => ?_⟩
    simp only [blkS, hX]
    rfl
  have hg : (hdB [] 0 ++ (blkS 1 D ++ tlB D)).getD (15 + i) 0 = (D ++ tlB D).getD i 0 := by
    rw [hb D rfl]
    simp only [List.getD, List.append_assoc]
    rw [List.getElem?_append_right (by omega), List.getElem?_append_right (by omega), hh, h5]
    congr 2; omega
  rw [hg] at hv
  have hset : ∀ Y : List UInt8, (hdB [] 0 ++ (H5 ++ Y)).set (15 + i) v = hdB [] 0 ++ (H5 ++ Y.set i v) := fun Y => by
    rw [List.set_append_right _ _ (by omega), List.set_append_right _ _ (by omega), hh, h5]
    congr 3; omega
  rw [hb D rfl, List.append_assoc, hset]
  by_cases c : i < D.length
  · refine ⟨D.set i v, tlB D, ?_, List.length_set, tlB_len, ?_⟩
    · rw [hb _ List.length_set, List.set_append_left _ _ c, List.append_assoc]
    · refine tlB_other c ?_
      simpa [List.getD, List.getElem?_append_left c] using hv
  · refine ⟨D, (tlB D).set (i - D.length) v, ?_, rfl, by rw [List.length_set, tlB_len], ?_⟩
    · rw [hb D rfl, List.set_append_right _ _ (by omega), List.append_assoc]
    · refine set_other (by rw [tlB_len]; omega) ?_
      simpa [List.getD, List.getElem?_append_right (show D.length ≤ i by omega)] using hv
end Go.Proofs.YtbcncdpaigljeaaGreatDoor.Aw
namespace Go.Proofs.YtbcncdpaigljeaaGreatDoor.Aw
open Go
set_option linter.unusedSimpArgs false
set_option linter.unusedVariables false
def mbA (nm : ByteArray) (mt : Int) (nl : Bool) (b : List UInt8) : AV := .agg [.sc (.string nm), int mt, .sl nl none (b.map u8)]
set_option maxHeartbeats 1000000 in
set_option maxRecDepth 100000 in
theorem gz_Pack_h [Tabs Tryz.prog] (nm : ByteArray) (hn : nm.data.toList.length ≤ 200) (hz : Lib.indexByte nm.data.toList 0 < 0) (mt : Nat) (hm : mt < 4294967296) (nl : Bool) (b : List UInt8) (hb : b.length ≤ 1000000) (how : Int) (K : List UInt8) (hK : K.length ≤ 1000000)
    (hD : Con Tryz.prog n_deflate_Deflate [.sl nl none (b.map u8), int how] (.tup [.sl false none (K.map u8), int 0])) (n : Nat) (hnn : n = (hdB nm.data.toList mt ++ (K ++ tlB b)).length) :
    HCon Tryz.prog n_gzip_Pack [mbA nm mt nl b, int how] [] (.tup [.own 4022 8 none 0 n, int 0]) [(4022, 8, .row false ((hdB nm.data.toList mt ++ (K ++ tlB b)).map u8))] 20 := by
  refine HCon.of' mix Tryz.func13 rfl Tryz.ntmps13 e_gzip_Pack r_gzip_Pack (by simp) (by simp only [mbA, AV.gl, AV.gl.glL, int, and_true, true_and]; exact glL_of_free _ _ free_u8) (by simp) ?_
  unfold s_gzip_Pack
  have hf : AV.free.freeL (b.map u8) = true := free_u8
  have p1 := strings_IndexByte_c nm 0
  have p2 := gz_tail_c nl b hb
  have p3 := gz_head_c nm hn mt hm nl b
  obtain ⟨H, hH⟩ : ∃ H, H = hdB nm.data.toList mt := ⟨_, rfl⟩
  obtain ⟨T, hT⟩ : ∃ T, T = tlB b := ⟨_, rfl⟩
  have hTl : T.length = 8 := by rw [hT, tlB, List.length_append, length_leB4, length_leB4]
  have hHl := hdB_len (nm := nm.data.toList) (mt := mt)
  rw [← hH] at p3 hnn hHl ⊢
  rw [← hT] at p2 hnn ⊢
  simp only [List.length_append] at hnn
  have p4 := slices_ConcatY_h false false false H K T n (by omega) (by omega) (by omega)
  have d1 : decide ((mt : Int) < 0) = false := decide_eq_false (by omega)
  have d2 : decide ((4294967295 : Int) < (mt : Int)) = false := decide_eq_false (by omega)
  have d3 : decide ((200 : Int) < (nm.data.toList.length : Int)) = false := decide_eq_false (by omega)
  have d4 : decide ((0 : Int) ≤ Lib.indexByte nm.data.toList 0) = false := decide_eq_false (by omega)
  have t8 : (T.map u8).take 8 = T.map u8 := List.take_of_length_le (by simp; omega)
  repeat (first | refine wA ?_ | refine wB ?_ | refine wC rfl ?_ | refine wD rfl ?_ | refine wE ?_ | refine wF (by omega) ?_ | ((first | refine wG ?_ | refine wH ?_ | refine wI ?_ | refine wJ ?_ | refine wK ?_ | refine wL ?_); simp (disch := omega) only [wP, wZ, undef, seval, if_pos, if_neg, aStore, frz, AV.flat, ↓reduceIte, ne_eq, reduceCtorEq, ByteArray.size, mbA, d1, d2, d3]))
  refine goC_p _ (.inl ⟨rfl, p1⟩) ?_
  repeat (first | refine wA ?_ | refine wB ?_ | refine wC rfl ?_ | refine wD rfl ?_ | refine wE ?_ | refine wF (by omega) ?_ | ((first | refine wG ?_ | refine wH ?_ | refine wI ?_ | refine wJ ?_ | refine wK ?_ | refine wL ?_); simp (disch := omega) only [wP, wZ, undef, seval, if_pos, if_neg, aStore, frz, AV.flat, ↓reduceIte, ne_eq, reduceCtorEq, ByteArray.size, d4]))
  refine goC_p _ (.inl ⟨by simp only [AV.free, AV.free.freeL, int, free_u8, Bool.and_self], hD⟩) ?_
  repeat (first | refine wA ?_ | refine wB ?_ | refine wC rfl ?_ | refine wD rfl ?_ | refine wE ?_ | refine wF (by omega) ?_ | ((first | refine wG ?_ | refine wH ?_ | refine wI ?_ | refine wJ ?_ | refine wK ?_ | refine wL ?_); simp (disch := omega) only [wP, wZ, undef, seval, if_pos, if_neg, aStore, frz, AV.flat, ↓reduceIte, ne_eq, reduceCtorEq, ByteArray.size]))
  refine goC_p _ (.inl ⟨by simp only [AV.free, AV.free.freeL, free_u8, Bool.and_self], p2⟩) ?_
  iterate 1 (first | refine wA ?_ | refine wB ?_ | refine wC rfl ?_ | refine wD rfl ?_ | refine wE ?_ | refine wF (by omega) ?_ | ((first | refine wG ?_ | refine wH ?_ | refine wI ?_ | refine wJ ?_ | refine wK ?_ | refine wL ?_); simp (disch := omega) only [wP, wZ, undef, seval, if_pos, if_neg, aStore, frz, AV.flat, ↓reduceIte, ne_eq, reduceCtorEq, ByteArray.size, hTl]))
  refine SWp.le (le_mk (N := 46) (gc := 3) (l := [(2, .op 2 1 0), (6, .sl false none (K.map u8)), (8, .op 8 2 0)]) (h := [(2, 1, .row false [.sc (.string nm), int mt, .sl nl none (b.map u8)]), (8, 2, .row false (T.map u8))]) rfl ?_ ?_ ?_) ?_
  · exact Nat.le_refl _
  iterate 2 (case _ => simp (disch := omega) only [wP, wZ, undef, seval, if_pos, if_neg, aStore, frz, AV.flat, ↓reduceIte, ne_eq, reduceCtorEq, ByteArray.size, hTl])
  refine SWp.frzo 8 2 (nl := false) (cells := T.map u8) (by simp (disch := omega) only [wP, wZ, undef, seval, if_pos, if_neg, aStore, frz, AV.flat, ↓reduceIte, ne_eq, reduceCtorEq, ByteArray.size]) free_u8 ?_
  refine SWp.le (le_mk (N := 46) (gc := 3) (l := [(2, .op 2 1 0), (6, .sl false none (K.map u8)), (8, .fp (.agg (T.map u8)) 0)]) (h := [(2, 1, .row false [.sc (.string nm), int mt, .sl nl none (b.map u8)])]) rfl ?_ ?_ ?_) ?_
  · exact Nat.le_refl _
  iterate 2 (case _ => simp (disch := omega) only [wP, wZ, undef, seval, if_pos, if_neg, aStore, frz, AV.flat, ↓reduceIte, ne_eq, reduceCtorEq, ByteArray.size, fR, hTl])
  repeat (first | refine wA ?_ | refine wB ?_ | refine wC rfl ?_ | refine wD rfl ?_ | refine wE ?_ | refine wF (by omega) ?_ | ((first | refine wG ?_ | refine wH ?_ | refine wI ?_ | refine wJ ?_ | refine wK ?_ | refine wL ?_); simp (disch := omega) only [wP, wZ, undef, seval, if_pos, if_neg, aStore, frz, AV.flat, ↓reduceIte, ne_eq, reduceCtorEq, ByteArray.size]))
  refine goC_p _ (.inl ⟨by simp only [AV.free, AV.free.freeL, free_u8, Bool.and_self], p3⟩) ?_
  repeat (first | refine wA ?_ | refine wB ?_ | refine wC rfl ?_ | refine wD rfl ?_ | refine wE ?_ | refine wF (by omega) ?_ | ((first | refine wG ?_ | refine wH ?_ | refine wI ?_ | refine wJ ?_ | refine wK ?_ | refine wL ?_); simp (disch := omega) only [wP, wZ, undef, seval, if_pos, if_neg, aStore, frz, AV.flat, ↓reduceIte, ne_eq, reduceCtorEq, ByteArray.size, t8, hTl]))
  refine goC_h [] 3000 p4 (by simp) (by simp) ?_ ?_ ?_
  iterate 2 (case _ => simp (disch := omega) only [wP, wZ, undef, seval, if_pos, if_neg, aStore, frz, AV.flat, ↓reduceIte, ne_eq, reduceCtorEq, ByteArray.size])
  repeat (first | refine wA ?_ | refine wB ?_ | refine wC rfl ?_ | refine wD rfl ?_ | refine wE ?_ | refine wF (by omega) ?_ | ((first | refine wG ?_ | refine wH ?_ | refine wI ?_ | refine wJ ?_ | refine wK ?_ | refine wL ?_); simp (disch := omega) only [wP, wZ, undef, seval, if_pos, if_neg, aStore, frz, AV.flat, ↓reduceIte, ne_eq, reduceCtorEq, ByteArray.size]))
end Go.Proofs.YtbcncdpaigljeaaGreatDoor.Aw
namespace Go.Proofs.YtbcncdpaigljeaaGreatDoor.Aw
open Go
set_option linter.unusedSimpArgs false
set_option linter.unusedVariables false
theorem length_stL {b : List UInt8} : (stL b).length = b.length + 5 * ((b.length - 1) / 65535 + 1) := by
  rw [stL, List.length_append, length_stK (by omega), length_blkS, List.length_drop]; omega
set_option maxHeartbeats 1000000 in
set_option maxRecDepth 100000 in
theorem Deflate_0 [Tabs Tryz.prog] (nl : Bool) (b : List UInt8) (hb : b.length ≤ 170000) : Con Tryz.prog n_deflate_Deflate [.sl nl none (b.map u8), .sc (.int .i64 0)] (.tup [.sl false none ((stL b).map u8), .sc (.int .i64 0)]) := by
  refine Con.of' mix Tryz.func9 rfl Tryz.ntmps9 e_deflate_Deflate r_deflate_Deflate (by simp) (by simp only [AV.free, AV.free.freeL, free_u8, Bool.and_self]) (by simp only [AV.free, AV.free.freeL, free_u8, Bool.and_self]) ?_
  unfold s_deflate_Deflate
  obtain ⟨n, hn⟩ : ∃ n, n = (stL b).length := ⟨_, rfl⟩
  have hnl := length_stL (b := b)
  have hn0 : nl0 n = false := nl0_pos (by omega)
  have ps := packer_stored_h nl b hb n hn
  have pb := huff_WBytes_h n (8 * n) (stL b) hn.symm (by omega)
  have nw := huff_NewWriter_h
  have d : decide ((16777216 : Int) < (b.length : Int)) = false := decide_eq_false (by omega)
  obtain ⟨B, hB⟩ : ∃ B, B = stL b := ⟨_, rfl⟩
  rw [← hB] at ps pb ⊢
  rw [hn0] at ps pb
  repeat (first | refine wA ?_ | refine wB ?_ | refine wC rfl ?_ | refine wD rfl ?_ | refine wE ?_ | refine wF (by omega) ?_ | ((first | refine wG ?_ | refine wH ?_ | refine wI ?_ | refine wJ ?_ | refine wK ?_ | refine wL ?_); simp (disch := omega) only [wP, wZ, undef, seval, if_pos, if_neg, aStore, frz, AV.flat, ↓reduceIte, ne_eq, reduceCtorEq, ByteArray.size, d, List.length_map]))
  refine goC_h [] 2000 nw (by simp) (by simp) ?_ ?_ ?_
  iterate 2 (case _ => simp (disch := omega) only [wP, wZ, undef, seval, if_pos, if_neg, aStore, frz, AV.flat, ↓reduceIte, ne_eq, reduceCtorEq, ByteArray.size])
  repeat (first | refine wA ?_ | refine wB ?_ | refine wC rfl ?_ | refine wD rfl ?_ | refine wE ?_ | refine wF (by omega) ?_ | ((first | refine wG ?_ | refine wH ?_ | refine wI ?_ | refine wJ ?_ | refine wK ?_ | refine wL ?_); simp (disch := omega) only [wP, wZ, undef, seval, if_pos, if_neg, aStore, frz, AV.flat, ↓reduceIte, ne_eq, reduceCtorEq, ByteArray.size, iR]))
  refine goC_h [(2002, 1), (2100, 2)] 3000 ps (by simp) (by simp) ?_ ?_ ?_
  iterate 2 (case _ => simp (disch := omega) only [wP, wZ, undef, seval, if_pos, if_neg, aStore, frz, AV.flat, ↓reduceIte, ne_eq, reduceCtorEq, ByteArray.size, wrR, iR])
  repeat (first | refine wA ?_ | refine wB ?_ | refine wC rfl ?_ | refine wD rfl ?_ | refine wE ?_ | refine wF (by omega) ?_ | ((first | refine wG ?_ | refine wH ?_ | refine wI ?_ | refine wJ ?_ | refine wK ?_ | refine wL ?_); simp (disch := omega) only [wP, wZ, undef, seval, if_pos, if_neg, aStore, frz, AV.flat, ↓reduceIte, ne_eq, reduceCtorEq, ByteArray.size, wrR, iR]))
  refine goC_h [(2002, 1), (2100, 2255)] 4000 pb (by simp) (by simp) ?_ ?_ ?_
  iterate 2 (case _ => simp (disch := omega) only [wP, wZ, undef, seval, if_pos, if_neg, aStore, frz, AV.flat, ↓reduceIte, ne_eq, reduceCtorEq, ByteArray.size, wrR, iR])
  repeat (first | refine wA ?_ | refine wB ?_ | refine wC rfl ?_ | refine wD rfl ?_ | refine wE ?_ | refine wF (by omega) ?_ | ((first | refine wG ?_ | refine wH ?_ | refine wI ?_ | refine wJ ?_ | refine wK ?_ | refine wL ?_); simp (disch := omega) only [wP, wZ, undef, seval, if_pos, if_neg, aStore, frz, AV.flat, ↓reduceIte, ne_eq, reduceCtorEq, ByteArray.size, wrR, iR]))
end Go.Proofs.YtbcncdpaigljeaaGreatDoor.Aw
namespace Go.Proofs.YtbcncdpaigljeaaGreatDoor.Aw
open Go
set_option linter.unusedSimpArgs false
set_option linter.unusedVariables false
def cds (l d : List Nat) : AV := .fp (.agg [.fp (.agg (trR l)) 0, .fp (.agg (trR d)) 0]) 0
def fxA : Bool → AV
  | true => cds fixL fixD
  | false => .sc (.pointer none)
theorem free_cds {l d : List Nat} : (cds l d).free = true := by simp only [cds, AV.free, AV.free.freeL, free_trR, Bool.and_self]
theorem free_fxA {t : Bool} : (fxA t).free = true := by cases t
                                                        · rfl
                                                        · exact free_cds
theorem ren_cds {ρ : Nat → Nat → Nat × Nat} {l d : List Nat} : ren ρ (cds l d) = cds l d := ren_free ρ _ free_cds
theorem ren_fxA {ρ : Nat → Nat → Nat × Nat} {t : Bool} : ren ρ (fxA t) = fxA t := ren_free ρ _ free_fxA
theorem fzo_fxA {id g : Nat} {nl : Bool} {cells : List AV} {t : Bool} : fzo id g nl cells (fxA t) = fxA t := by cases t <;> rfl
theorem cells_fxA {t : Bool} : cellsA (fxA t) = some [fxA t] := by cases t <;> rfl
def unR (t : Bool) (most g n : Nat) : List AV := [.op 1001 0 0, .own 1002 g none 0 n, int (most : Int), fxA t]
def unI (t : Bool) (most : Nat) (nl : Bool) (b : List UInt8) (i : Nat) (out : List UInt8) : List AO := [.row false (unR t most 0 out.length), .row false (rdR nl b i), .row (nl0 out.length) (out.map u8)]
def unO (g : Nat) (t : Bool) (most : Nat) (nl : Bool) (b : List UInt8) (i : Nat) (out : List UInt8) : List (Nat × Nat × AO) := [(1000, 0, .row false (unR t most g out.length)), (1001, 0, .row false (rdR nl b i)), (1002, g, .row (nl0 out.length) (out.map u8))]
theorem un_gl {t : Bool} {most : Nat} {nl : Bool} {b : List UInt8} {i : Nat} {out : List UInt8} : ∀ m cells, AO.row m cells ∈ unI t most nl b i out → AV.gl.glL 1 cells := by
  intro m cells h
  simp only [unI, List.mem_cons, AO.row.injEq, List.not_mem_nil, or_false] at h
  obtain ⟨-, rfl⟩ | ⟨-, rfl⟩ | ⟨-, rfl⟩ := h
  · simp only [unR, AV.gl.glL, AV.gl, int, and_true]
    exact ⟨by omega, by omega, trivial, gl_of_free 1 _ free_fxA⟩
  · simp only [rdR, AV.gl.glL, AV.gl, and_true]
    exact glL_of_free _ _ free_u8
  · exact glL_of_free _ _ free_u8
set_option maxRecDepth 100000 in
theorem inf_plus_h [Tabs Tryz.prog] (t : Bool) (most : Nat) (nl : Bool) (b : List UInt8) (hb : b.length ≤ 1000000) (i : Nat) (hi : i ≤ 8 * b.length) (out : List UInt8) (v n : Nat) (hn : n ≤ 24) (hv : v < 100000) (hin : i + n ≤ 8 * b.length) :
    HCon Tryz.prog n_inflate_unpacker_plus [.op 1000 0 0, int (v : Int), int (n : Int)] (unI t most nl b i out) (.tup [int ((v + numAt b i n : Nat) : Int), int 0]) (unO 0 t most nl b (i + n) out) 40 := by
  refine HCon.of' mix Tryz.func139 rfl Tryz.ntmps139 e_inflate_unpacker_plus r_inflate_unpacker_plus (by simp) (by simp [AV.gl, AV.gl.glL, int]) un_gl ?_
  unfold s_inflate_unpacker_plus
  have hT := huff_Take_h nl b hb i hi n hn hin
  have hlt := numAt_lt (b := b) (i := i) (n := n)
  have hp : 2 ^ n ≤ 16777216 := two_pow_le (n := n) (m := 24) hn
  obtain ⟨x, hx⟩ : ∃ x, x = numAt b i n := ⟨_, rfl⟩
  rw [← hx] at hT hlt ⊢
  repeat (first | refine wA ?_ | refine wB ?_ | refine wC rfl ?_ | refine wD rfl ?_ | refine wE ?_ | refine wF (by omega) ?_ | ((first | refine wG ?_ | refine wH ?_ | refine wI ?_ | refine wJ ?_ | refine wK ?_ | refine wL ?_); simp (disch := omega) only [wP, wZ, undef, seval, if_pos, if_neg, aStore, frz, AV.flat, ↓reduceIte, ne_eq, reduceCtorEq, ByteArray.size, unI, unR]))
  refine goC_h [(1001, 0)] 2000 hT (by simp) (by simp) ?_ ?_ ?_
  iterate 2 (case _ => simp (disch := omega) only [wP, wZ, undef, seval, if_pos, if_neg, aStore, frz, AV.flat, ↓reduceIte, ne_eq, reduceCtorEq, ByteArray.size, rdR])
  repeat (first | refine wA ?_ | refine wB ?_ | refine wC rfl ?_ | refine wD rfl ?_ | refine wE ?_ | refine wF (by omega) ?_ | ((first | refine wG ?_ | refine wH ?_ | refine wI ?_ | refine wJ ?_ | refine wK ?_ | refine wL ?_); simp (disch := omega) only [wP, wZ, undef, seval, if_pos, if_neg, aStore, frz, AV.flat, ↓reduceIte, ne_eq, reduceCtorEq, ByteArray.size, rdR, unO, unR]))
set_option maxRecDepth 100000 in
theorem inf_plus_no [Tabs Tryz.prog] (t : Bool) (most : Nat) (nl : Bool) (b : List UInt8) (hb : b.length ≤ 1000000) (i : Nat) (hi : i ≤ 8 * b.length) (out : List UInt8) (v n : Nat) (hin : ¬ i + n ≤ 8 * b.length) :
    HCon Tryz.prog n_inflate_unpacker_plus [.op 1000 0 0, int (v : Int), int (n : Int)] (unI t most nl b i out) (.tup [int 0, int 2]) [] 40 := by
  refine HCon.of' mix Tryz.func139 rfl Tryz.ntmps139 e_inflate_unpacker_plus r_inflate_unpacker_plus (by simp) (by simp [AV.gl, AV.gl.glL, int]) un_gl ?_
  unfold s_inflate_unpacker_plus
  have hT := huff_Take_no nl b hb i hi (n : Int) (decide_eq_false (by omega))
  repeat (first | refine wA ?_ | refine wB ?_ | refine wC rfl ?_ | refine wD rfl ?_ | refine wE ?_ | refine wF (by omega) ?_ | ((first | refine wG ?_ | refine wH ?_ | refine wI ?_ | refine wJ ?_ | refine wK ?_ | refine wL ?_); simp (disch := omega) only [wP, wZ, undef, seval, if_pos, if_neg, aStore, frz, AV.flat, ↓reduceIte, ne_eq, reduceCtorEq, ByteArray.size, unI, unR]))
  refine goC_h [(1001, 0)] 2000 hT (by simp) (by simp) ?_ ?_ ?_
  iterate 2 (case _ => simp (disch := omega) only [wP, wZ, undef, seval, if_pos, if_neg, aStore, frz, AV.flat, ↓reduceIte, ne_eq, reduceCtorEq, ByteArray.size, rdR])
  repeat (first | refine wA ?_ | refine wB ?_ | refine wC rfl ?_ | refine wD rfl ?_ | refine wE ?_ | refine wF (by omega) ?_ | ((first | refine wG ?_ | refine wH ?_ | refine wI ?_ | refine wJ ?_ | refine wK ?_ | refine wL ?_); simp (disch := omega) only [wP, wZ, undef, seval, if_pos, if_neg, aStore, frz, AV.flat, ↓reduceIte, ne_eq, reduceCtorEq, ByteArray.size, rdR, unO, unR]))
theorem inf_room_h [Tabs Tryz.prog] (t : Bool) (most : Nat) (hm : most ≤ 16777216) (nl : Bool) (b : List UInt8) (i : Nat) (out : List UInt8) (ho : out.length ≤ most) :
    HCon Tryz.prog n_inflate_unpacker_room [.op 1000 0 0] (unI t most nl b i out) (int ((most - out.length : Nat) : Int)) (unO 0 t most nl b i out) 1 := by
  refine HCon.of' mix Tryz.func100 rfl Tryz.ntmps100 e_inflate_unpacker_room r_inflate_unpacker_room (by simp) (by simp [AV.gl, AV.gl.glL, int]) un_gl ?_
  unfold s_inflate_unpacker_room
  have e : (most : Int) - (out.length : Int) = ((most - out.length : Nat) : Int) := by omega
  repeat (first | refine wA ?_ | refine wB ?_ | refine wC rfl ?_ | refine wD rfl ?_ | refine wE ?_ | refine wF (by omega) ?_ | ((first | refine wG ?_ | refine wH ?_ | refine wI ?_ | refine wJ ?_ | refine wK ?_ | refine wL ?_); simp (disch := omega) only [wP, wZ, undef, seval, if_pos, if_neg, aStore, frz, AV.flat, ↓reduceIte, ne_eq, reduceCtorEq, ByteArray.size, unI, unO, unR, e]))
set_option maxRecDepth 100000 in
theorem inf_literal_no [Tabs Tryz.prog] (t : Bool) (most : Nat) (hm : most ≤ 16777216) (nl : Bool) (b : List UInt8) (i : Nat) (out : List UInt8) (ho : out.length ≤ most) (c : UInt8) (hf : most ≤ out.length) :
    HCon Tryz.prog n_inflate_unpacker_literal [.op 1000 0 0, u8 c] (unI t most nl b i out) (int 4) [] 10 := by
  refine HCon.of' mix Tryz.func103 rfl Tryz.ntmps103 e_inflate_unpacker_literal r_inflate_unpacker_literal (by simp) (by simp [AV.gl, AV.gl.glL, u8]) un_gl ?_
  unfold s_inflate_unpacker_literal
  have d : decide (((most - out.length : Nat) : Int) < 1) = true := decide_eq_true (by omega)
  repeat (first | refine wA ?_ | refine wB ?_ | refine wC rfl ?_ | refine wD rfl ?_ | refine wE ?_ | refine wF (by omega) ?_ | ((first | refine wG ?_ | refine wH ?_ | refine wI ?_ | refine wJ ?_ | refine wK ?_ | refine wL ?_); simp (disch := omega) only [wP, wZ, undef, seval, if_pos, if_neg, aStore, frz, AV.flat, ↓reduceIte, ne_eq, reduceCtorEq, ByteArray.size]))
  refine goC_h [(1000, 0), (1001, 0), (1002, 0)] 2000 (inf_room_h t most hm nl b i out ho) (by simp) (by simp) ?_ ?_ ?_
  iterate 2 (case _ => simp (disch := omega) only [wP, wZ, undef, seval, if_pos, if_neg, aStore, frz, AV.flat, ↓reduceIte, ne_eq, reduceCtorEq, ByteArray.size, unI, unR, rdR, ren_fxA])
  repeat (first | refine wA ?_ | refine wB ?_ | refine wC rfl ?_ | refine wD rfl ?_ | refine wE ?_ | refine wF (by omega) ?_ | ((first | refine wG ?_ | refine wH ?_ | refine wI ?_ | refine wJ ?_ | refine wK ?_ | refine wL ?_); simp (disch := omega) only [wP, wZ, undef, seval, if_pos, if_neg, aStore, frz, AV.flat, ↓reduceIte, ne_eq, reduceCtorEq, ByteArray.size, unO, unR, rdR, ren_fxA, d]))
set_option maxRecDepth 100000 in
theorem inf_literal_h [Tabs Tryz.prog] (t : Bool) (most : Nat) (hm : most ≤ 16777216) (nl : Bool) (b : List UInt8) (i : Nat) (out : List UInt8) (hf : out.length < most) (c : UInt8) :
    HCon Tryz.prog n_inflate_unpacker_literal [.op 1000 0 0, u8 c] (unI t most nl b i out) (int 0) (unO 2 t most nl b i (out ++ [c])) 10 := by
  refine HCon.of' mix Tryz.func103 rfl Tryz.ntmps103 e_inflate_unpacker_literal r_inflate_unpacker_literal (by simp) (by simp [AV.gl, AV.gl.glL, u8]) un_gl ?_
  unfold s_inflate_unpacker_literal
  have d : decide (((most - out.length : Nat) : Int) < 1) = false := decide_eq_false (by omega)
  repeat (first | refine wA ?_ | refine wB ?_ | refine wC rfl ?_ | refine wD rfl ?_ | refine wE ?_ | refine wF (by omega) ?_ | ((first | refine wG ?_ | refine wH ?_ | refine wI ?_ | refine wJ ?_ | refine wK ?_ | refine wL ?_); simp (disch := omega) only [wP, wZ, undef, seval, if_pos, if_neg, aStore, frz, AV.flat, ↓reduceIte, ne_eq, reduceCtorEq, ByteArray.size]))
  refine goC_h [(1000, 0), (1001, 0), (1002, 0)] 2000 (inf_room_h t most hm nl b i out (by omega)) (by simp) (by simp) ?_ ?_ ?_
  iterate 2 (case _ => simp (disch := omega) only [wP, wZ, undef, seval, if_pos, if_neg, aStore, frz, AV.flat, ↓reduceIte, ne_eq, reduceCtorEq, ByteArray.size, unI, unR, rdR, ren_fxA])
  repeat (first | refine wA ?_ | refine wB ?_ | refine wC rfl ?_ | refine wD rfl ?_ | refine wE ?_ | refine wF (by omega) ?_ | ((first | refine wG ?_ | refine wH ?_ | refine wI ?_ | refine wJ ?_ | refine wK ?_ | refine wL ?_); simp (disch := omega) only [wP, wZ, undef, seval, if_pos, if_neg, aStore, frz, AV.flat, ↓reduceIte, ne_eq, reduceCtorEq, ByteArray.size, unO, unR, rdR, ren_fxA, d, cells_fxA, nl0_succ]))
end Go.Proofs.YtbcncdpaigljeaaGreatDoor.Aw
namespace Go.Proofs.YtbcncdpaigljeaaGreatDoor.Aw
open Go
set_option linter.unusedSimpArgs false
set_option linter.unusedVariables false
def Ans {α : Type} (P : Program) [Tabs P] (f : Nat) (ins : List AV) (hin : List AO) (r : BR α) (good : α → AV) (hout : α → Nat → List (Nat × Nat × AO)) (bad : Nat → AV) (k : Nat) : Prop :=
  match r with
  | .ok a j => HCon P f ins hin (good a) (hout a j) k
  | .no e => (e ≠ 0 ∧ e ≤ 10) ∧ HCon P f ins hin (bad e) [] k
def okI (v : Nat) : AV := .tup [int (v : Int), int 0]
def noI (e : Nat) : AV := .tup [int 0, int (e : Int)]
theorem inf_plus_a [Tabs Tryz.prog] (t : Bool) (most : Nat) (nl : Bool) (b : List UInt8) (hb : b.length ≤ 1000000) (i : Nat) (hi : i ≤ 8 * b.length) (out : List UInt8) (v n : Nat) (hn : n ≤ 24) (hv : v < 100000) :
    Ans Tryz.prog n_inflate_unpacker_plus [.op 1000 0 0, int (v : Int), int (n : Int)] (unI t most nl b i out) ((plusT v n).run (bitsL b) i) okI (fun _ j => unO 0 t most nl b j out) noI 40 := by
  rw [plusT, run_bnd, run_num hi]
  split
  · exact inf_plus_h t most nl b hb i hi out v n hn hv (by assumption)
  · exact ⟨by omega, inf_plus_no t most nl b hb i hi out v n (by assumption)⟩
set_option maxRecDepth 100000 in
theorem inf_length_a [Tabs Tryz.prog] (t : Bool) (most : Nat) (nl : Bool) (b : List UInt8) (hb : b.length ≤ 1000000) (i : Nat) (hi : i ≤ 8 * b.length) (out : List UInt8) (s : Nat) (hs : s < 1000) :
    Ans Tryz.prog n_inflate_unpacker_length [.op 1000 0 0, int (s : Int)] (unI t most nl b i out) ((lenT s).run (bitsL b) i) okI (fun _ j => unO 0 t most nl b j out) noI 50 := by
  by_cases c1 : 29 ≤ s
  · rw [show lenT s = .err 3 by rw [lenT, if_pos c1]]
    refine ⟨by omega, HCon.of' mix Tryz.func136 rfl Tryz.ntmps136 e_inflate_unpacker_length r_inflate_unpacker_length (by simp) (by simp [AV.gl, AV.gl.glL, int]) un_gl ?_⟩
    unfold s_inflate_unpacker_length
    have d1 : decide ((29 : Int) ≤ (s : Int)) = true := decide_eq_true (by omega)
    repeat (first | refine wA ?_ | refine wB ?_ | refine wC rfl ?_ | refine wD rfl ?_ | refine wE ?_ | refine wF (by omega) ?_ | ((first | refine wG ?_ | refine wH ?_ | refine wI ?_ | refine wJ ?_ | refine wK ?_ | refine wL ?_); simp (disch := omega) only [wP, wZ, undef, seval, if_pos, if_neg, aStore, frz, AV.flat, ↓reduceIte, ne_eq, reduceCtorEq, ByteArray.size, d1, noI]))
  have d1 : decide ((29 : Int) ≤ (s : Int)) = false := decide_eq_false (by omega)
  by_cases c2 : s = 28
  · subst c2
    rw [show lenT 28 = .ret 258 from rfl]
    refine HCon.of' mix Tryz.func136 rfl Tryz.ntmps136 e_inflate_unpacker_length r_inflate_unpacker_length (by simp) (by simp [AV.gl, AV.gl.glL, int]) un_gl ?_
    unfold s_inflate_unpacker_length
    repeat (first | refine wA ?_ | refine wB ?_ | refine wC rfl ?_ | refine wD rfl ?_ | refine wE ?_ | refine wF (by omega) ?_ | ((first | refine wG ?_ | refine wH ?_ | refine wI ?_ | refine wJ ?_ | refine wK ?_ | refine wL ?_); simp (disch := omega) only [wP, wZ, undef, seval, if_pos, if_neg, aStore, frz, AV.flat, ↓reduceIte, ne_eq, reduceCtorEq, ByteArray.size, d1, okI, unI, unR, unO]))
  have d2 : decide ((s : Int) = 28) = false := decide_eq_false (by omega)
  by_cases c3 : s < 8
  · rw [show lenT s = .ret (3 + s) by rw [lenT, if_neg c1, if_neg c2, if_pos c3]]
    refine HCon.of' mix Tryz.func136 rfl Tryz.ntmps136 e_inflate_unpacker_length r_inflate_unpacker_length (by simp) (by simp [AV.gl, AV.gl.glL, int]) un_gl ?_
    unfold s_inflate_unpacker_length
    have d3 : decide ((s : Int) < 8) = true := decide_eq_true (by omega)
    repeat (first | refine wA ?_ | refine wB ?_ | refine wC rfl ?_ | refine wD rfl ?_ | refine wE ?_ | refine wF (by omega) ?_ | ((first | refine wG ?_ | refine wH ?_ | refine wI ?_ | refine wJ ?_ | refine wK ?_ | refine wL ?_); simp (disch := omega) only [wP, wZ, undef, seval, if_pos, if_neg, aStore, frz, AV.flat, ↓reduceIte, ne_eq, reduceCtorEq, ByteArray.size, d1, d2, d3, okI, unI, unR, unO]))
  have d3 : decide ((s : Int) < 8) = false := decide_eq_false (by omega)
  rw [show lenT s = plusT (3 + (4 + s % 4) * 2 ^ (s / 4 - 1)) (s / 4 - 1) by rw [lenT, if_neg c1, if_neg c2, if_neg c3]]
  obtain ⟨k, hk⟩ : ∃ k, k = s / 4 - 1 := ⟨_, rfl⟩
  obtain ⟨m, hm⟩ : ∃ m, m = s % 4 := ⟨_, rfl⟩
  obtain ⟨q, hq⟩ : ∃ q, q = s / 4 := ⟨_, rfl⟩
  have e1 : (q : Int) - 1 = (k : Int) := by omega
  have hk6 : k ≤ 6 := by omega
  have hm4 : m < 4 := by omega
  have hp : 2 ^ k ≤ 64 := two_pow_le (n := k) (m := 6) hk6
  have hz2 : (4 + m) * 2 ^ k ≤ 7 * 64 := Nat.mul_le_mul (by omega) hp
  obtain ⟨p, hpd⟩ : ∃ p, p = 2 ^ k := ⟨_, rfl⟩
  obtain ⟨z, hz⟩ : ∃ z, z = (4 + m) * 2 ^ k := ⟨_, rfl⟩
  have e2 : ((4 : Int) + (m : Int)) * 2 ^ k = (z : Int) := by rw [hz, Int.natCast_mul, Int.natCast_add, Int.natCast_pow]; rfl
  rw [← hk, ← hm, ← hz]
  rw [← hz] at hz2
  have hA := inf_plus_a t most nl b hb i hi out (3 + z) k (by omega) (by omega)
  obtain ⟨r, hr⟩ : ∃ r, r = (plusT (3 + z) k).run (bitsL b) i := ⟨_, rfl⟩
  rw [← hr] at hA ⊢
  cases r with
  | ok a j =>
    refine HCon.of' mix Tryz.func136 rfl Tryz.ntmps136 e_inflate_unpacker_length r_inflate_unpacker_length (by simp) (by simp [AV.gl, AV.gl.glL, int]) un_gl ?_
    unfold s_inflate_unpacker_length
    repeat (first | refine wA ?_ | refine wB ?_ | refine wC rfl ?_ | refine wD rfl ?_ | refine wE ?_ | refine wF (by omega) ?_ | ((first | refine wG ?_ | refine wH ?_ | refine wI ?_ | refine wJ ?_ | refine wK ?_ | refine wL ?_); simp (disch := omega) only [wP, wZ, undef, seval, if_pos, if_neg, aStore, frz, AV.flat, ↓reduceIte, ne_eq, reduceCtorEq, ByteArray.size, d1, d2, d3, ← hq, ← hm, e1, e2]))
    refine goC_h [(1000, 0), (1001, 0), (1002, 0)] 2000 hA (by simp) (by simp) ?_ ?_ ?_
    iterate 2 (case _ => simp (disch := omega) only [wP, wZ, undef, seval, if_pos, if_neg, aStore, frz, AV.flat, ↓reduceIte, ne_eq, reduceCtorEq, ByteArray.size, unI, unR, rdR, ren_fxA])
    repeat (first | refine wA ?_ | refine wB ?_ | refine wC rfl ?_ | refine wD rfl ?_ | refine wE ?_ | refine wF (by omega) ?_ | ((first | refine wG ?_ | refine wH ?_ | refine wI ?_ | refine wJ ?_ | refine wK ?_ | refine wL ?_); simp (disch := omega) only [wP, wZ, undef, seval, if_pos, if_neg, aStore, frz, AV.flat, ↓reduceIte, ne_eq, reduceCtorEq, ByteArray.size, okI, unO, unR, rdR, ren_fxA]))
  | no e =>
    refine ⟨hA.1, HCon.of' mix Tryz.func136 rfl Tryz.ntmps136 e_inflate_unpacker_length r_inflate_unpacker_length (by simp) (by simp [AV.gl, AV.gl.glL, int]) un_gl ?_⟩
    unfold s_inflate_unpacker_length
    repeat (first | refine wA ?_ | refine wB ?_ | refine wC rfl ?_ | refine wD rfl ?_ | refine wE ?_ | refine wF (by omega) ?_ | ((first | refine wG ?_ | refine wH ?_ | refine wI ?_ | refine wJ ?_ | refine wK ?_ | refine wL ?_); simp (disch := omega) only [wP, wZ, undef, seval, if_pos, if_neg, aStore, frz, AV.flat, ↓reduceIte, ne_eq, reduceCtorEq, ByteArray.size, d1, d2, d3, ← hq, ← hm, e1, e2]))
    refine goC_h [(1000, 0), (1001, 0), (1002, 0)] 2000 hA.2 (by simp) (by simp) ?_ ?_ ?_
    iterate 2 (case _ => simp (disch := omega) only [wP, wZ, undef, seval, if_pos, if_neg, aStore, frz, AV.flat, ↓reduceIte, ne_eq, reduceCtorEq, ByteArray.size, unI, unR, rdR, ren_fxA])
    repeat (first | refine wA ?_ | refine wB ?_ | refine wC rfl ?_ | refine wD rfl ?_ | refine wE ?_ | refine wF (by omega) ?_ | ((first | refine wG ?_ | refine wH ?_ | refine wI ?_ | refine wJ ?_ | refine wK ?_ | refine wL ?_); simp (disch := omega) only [wP, wZ, undef, seval, if_pos, if_neg, aStore, frz, AV.flat, ↓reduceIte, ne_eq, reduceCtorEq, ByteArray.size, noI, unO, unR, rdR, ren_fxA]))
set_option maxRecDepth 100000 in
theorem inf_distance_a [Tabs Tryz.prog] (t : Bool) (most : Nat) (nl : Bool) (b : List UInt8) (hb : b.length ≤ 1000000) (i : Nat) (hi : i ≤ 8 * b.length) (out : List UInt8) (s : Nat) (hs : s < 1000) :
    Ans Tryz.prog n_inflate_unpacker_distance [.op 1000 0 0, int (s : Int)] (unI t most nl b i out) ((disT s).run (bitsL b) i) okI (fun _ j => unO 0 t most nl b j out) noI 50 := by
  by_cases c1 : 30 ≤ s
  · rw [show disT s = .err 3 by rw [disT, if_pos c1]]
    refine ⟨by omega, HCon.of' mix Tryz.func137 rfl Tryz.ntmps137 e_inflate_unpacker_distance r_inflate_unpacker_distance (by simp) (by simp [AV.gl, AV.gl.glL, int]) un_gl ?_⟩
    unfold s_inflate_unpacker_distance
    have d1 : decide ((30 : Int) ≤ (s : Int)) = true := decide_eq_true (by omega)
    repeat (first | refine wA ?_ | refine wB ?_ | refine wC rfl ?_ | refine wD rfl ?_ | refine wE ?_ | refine wF (by omega) ?_ | ((first | refine wG ?_ | refine wH ?_ | refine wI ?_ | refine wJ ?_ | refine wK ?_ | refine wL ?_); simp (disch := omega) only [wP, wZ, undef, seval, if_pos, if_neg, aStore, frz, AV.flat, ↓reduceIte, ne_eq, reduceCtorEq, ByteArray.size, d1, noI]))
  have d1 : decide ((30 : Int) ≤ (s : Int)) = false := decide_eq_false (by omega)
  by_cases c3 : s < 4
  · rw [show disT s = .ret (1 + s) by rw [disT, if_neg c1, if_pos c3]]
    refine HCon.of' mix Tryz.func137 rfl Tryz.ntmps137 e_inflate_unpacker_distance r_inflate_unpacker_distance (by simp) (by simp [AV.gl, AV.gl.glL, int]) un_gl ?_
    unfold s_inflate_unpacker_distance
    have d3 : decide ((s : Int) < 4) = true := decide_eq_true (by omega)
    repeat (first | refine wA ?_ | refine wB ?_ | refine wC rfl ?_ | refine wD rfl ?_ | refine wE ?_ | refine wF (by omega) ?_ | ((first | refine wG ?_ | refine wH ?_ | refine wI ?_ | refine wJ ?_ | refine wK ?_ | refine wL ?_); simp (disch := omega) only [wP, wZ, undef, seval, if_pos, if_neg, aStore, frz, AV.flat, ↓reduceIte, ne_eq, reduceCtorEq, ByteArray.size, d1, d3, okI, unI, unR, unO]))
  have d3 : decide ((s : Int) < 4) = false := decide_eq_false (by omega)
  rw [show disT s = plusT (1 + (2 + s % 2) * 2 ^ (s / 2 - 1)) (s / 2 - 1) by rw [disT, if_neg c1, if_neg c3]]
  obtain ⟨k, hk⟩ : ∃ k, k = s / 2 - 1 := ⟨_, rfl⟩
  obtain ⟨m, hm⟩ : ∃ m, m = s % 2 := ⟨_, rfl⟩
  obtain ⟨q, hq⟩ : ∃ q, q = s / 2 := ⟨_, rfl⟩
  have e1 : (q : Int) - 1 = (k : Int) := by omega
  have hk6 : k ≤ 13 := by omega
  have hm4 : m < 2 := by omega
  have hp : 2 ^ k ≤ 8192 := two_pow_le (n := k) (m := 13) hk6
  have hz2 : (2 + m) * 2 ^ k ≤ 3 * 8192 := Nat.mul_le_mul (by omega) hp
  obtain ⟨p, hpd⟩ : ∃ p, p = 2 ^ k := ⟨_, rfl⟩
  obtain ⟨z, hz⟩ : ∃ z, z = (2 + m) * 2 ^ k := ⟨_, rfl⟩
  have e2 : ((2 : Int) + (m : Int)) * 2 ^ k = (z : Int) := by rw [hz, Int.natCast_mul, Int.natCast_add, Int.natCast_pow]; rfl
  rw [← hk, ← hm, ← hz]
  rw [← hz] at hz2
  have hA := inf_plus_a t most nl b hb i hi out (1 + z) k (by omega) (by omega)
  obtain ⟨r, hr⟩ : ∃ r, r = (plusT (1 + z) k).run (bitsL b) i := ⟨_, rfl⟩
  rw [← hr] at hA ⊢
  cases r with
  | ok a j =>
    refine HCon.of' mix Tryz.func137 rfl Tryz.ntmps137 e_inflate_unpacker_distance r_inflate_unpacker_distance (by simp) (by simp [AV.gl, AV.gl.glL, int]) un_gl ?_
    unfold s_inflate_unpacker_distance
    repeat (first | refine wA ?_ | refine wB ?_ | refine wC rfl ?_ | refine wD rfl ?_ | refine wE ?_ | refine wF (by omega) ?_ | ((first | refine wG ?_ | refine wH ?_ | refine wI ?_ | refine wJ ?_ | refine wK ?_ | refine wL ?_); simp (disch := omega) only [wP, wZ, undef, seval, if_pos, if_neg, aStore, frz, AV.flat, ↓reduceIte, ne_eq, reduceCtorEq, ByteArray.size, d1, d3, ← hq, ← hm, e1, e2]))
    refine goC_h [(1000, 0), (1001, 0), (1002, 0)] 2000 hA (by simp) (by simp) ?_ ?_ ?_
    iterate 2 (case _ => simp (disch := omega) only [wP, wZ, undef, seval, if_pos, if_neg, aStore, frz, AV.flat, ↓reduceIte, ne_eq, reduceCtorEq, ByteArray.size, unI, unR, rdR, ren_fxA])
    repeat (first | refine wA ?_ | refine wB ?_ | refine wC rfl ?_ | refine wD rfl ?_ | refine wE ?_ | refine wF (by omega) ?_ | ((first | refine wG ?_ | refine wH ?_ | refine wI ?_ | refine wJ ?_ | refine wK ?_ | refine wL ?_); simp (disch := omega) only [wP, wZ, undef, seval, if_pos, if_neg, aStore, frz, AV.flat, ↓reduceIte, ne_eq, reduceCtorEq, ByteArray.size, okI, unO, unR, rdR, ren_fxA]))
  | no e =>
    refine ⟨hA.1, HCon.of' mix Tryz.func137 rfl Tryz.ntmps137 e_inflate_unpacker_distance r_inflate_unpacker_distance (by simp) (by simp [AV.gl, AV.gl.glL, int]) un_gl ?_⟩
    unfold s_inflate_unpacker_distance
    repeat (first | refine wA ?_ | refine wB ?_ | refine wC rfl ?_ | refine wD rfl ?_ | refine wE ?_ | refine wF (by omega) ?_ | ((first | refine wG ?_ | refine wH ?_ | refine wI ?_ | refine wJ ?_ | refine wK ?_ | refine wL ?_); simp (disch := omega) only [wP, wZ, undef, seval, if_pos, if_neg, aStore, frz, AV.flat, ↓reduceIte, ne_eq, reduceCtorEq, ByteArray.size, d1, d3, ← hq, ← hm, e1, e2]))
    refine goC_h [(1000, 0), (1001, 0), (1002, 0)] 2000 hA.2 (by simp) (by simp) ?_ ?_ ?_
    iterate 2 (case _ => simp (disch := omega) only [wP, wZ, undef, seval, if_pos, if_neg, aStore, frz, AV.flat, ↓reduceIte, ne_eq, reduceCtorEq, ByteArray.size, unI, unR, rdR, ren_fxA])
    repeat (first | refine wA ?_ | refine wB ?_ | refine wC rfl ?_ | refine wD rfl ?_ | refine wE ?_ | refine wF (by omega) ?_ | ((first | refine wG ?_ | refine wH ?_ | refine wI ?_ | refine wJ ?_ | refine wK ?_ | refine wL ?_); simp (disch := omega) only [wP, wZ, undef, seval, if_pos, if_neg, aStore, frz, AV.flat, ↓reduceIte, ne_eq, reduceCtorEq, ByteArray.size, noI, unO, unR, rdR, ren_fxA]))
end Go.Proofs.YtbcncdpaigljeaaGreatDoor.Aw
namespace Go.Proofs.YtbcncdpaigljeaaGreatDoor.Aw
open Go
set_option linter.unusedSimpArgs false
set_option linter.unusedVariables false
def kn : List Nat → Nat → Nat
  | [], _ => 0
  | x :: r, n => (if x < n then wt x else 0) + kn r n
theorem in_code {l : List Nat} {m j : Nat} (h0 : m ≠ 0) (hj : j < cn l m) : (syms l l.length m).getD j 0 < l.length ∧ l.getD ((syms l l.length m).getD j 0) 0 = m ∧ codeOf l ((syms l l.length m).getD j 0) = fr l m + j := by
  have key : ∀ k, k ≤ l.length → ∀ j, j < (syms l k m).length → (syms l k m).getD j 0 < k ∧ l.getD ((syms l k m).getD j 0) 0 = m ∧ (l.take ((syms l k m).getD j 0)).count m = j := by
    intro k
    induction k with
    | zero => intro _ j hj; rw [length_syms (by omega), if_neg h0] at hj; simp at hj
    | succ k ih =>
      intro hk j hj
      have ih := ih (by omega)
      have hlen : (syms l k m).length = (l.take k).count m := by rw [length_syms (by omega), if_neg h0]
      rw [syms_succ h0] at hj ⊢
      split
      · rename_i e
        rw [if_pos e, List.length_append, List.length_singleton] at hj
        by_cases hjl : j < (syms l k m).length
        · have := ih j hjl
          have e2 : (syms l k m ++ [k]).getD j 0 = (syms l k m).getD j 0 := by simp only [List.getD]; rw [List.getElem?_append_left hjl]
          rw [e2]
          exact ⟨by omega, this.2.1, this.2.2⟩
        · have e2 : (syms l k m ++ [k]).getD j 0 = k := by simp only [List.getD]; rw [List.getElem?_append_right (by omega)]; simp [show j - (syms l k m).length = 0 by omega]
          rw [e2]
          exact ⟨by omega, e, by omega⟩
      · rename_i e
        rw [if_neg e] at hj
        have := ih j hj
        exact ⟨by omega, this.2.1, this.2.2⟩
  have h := key l.length (Nat.le_refl _) j (by rw [length_symsF]; exact hj)
  refine ⟨h.1, h.2.1, ?_⟩
  unfold codeOf
  rw [h.2.1, if_neg h0, h.2.2]
end Go.Proofs.YtbcncdpaigljeaaGreatDoor.Aw
namespace Go.Proofs.YtbcncdpaigljeaaGreatDoor.Aw
open Go
set_option linter.unusedSimpArgs false
set_option linter.unusedVariables false
theorem nxt_sym {l B : List Nat} : ∀ (f n v : Nat), (nxt l B f n v).2.2 = 0 → (nxt l B f n v).1 < l.length ∧ n < (nxt l B f n v).2.1
  | 0, n, v, h => by simp [nxt] at h
  | f + 1, n, v, h => by
    rw [nxt] at h ⊢
    split
    · rename_i c; rw [if_pos c] at h; simp at h
    · rename_i c
      rw [if_neg c] at h
      split
      · rename_i c; rw [if_pos c] at h; simp at h
      · rename_i c
        rw [if_neg c] at h
        split
        · rename_i c; exact ⟨(in_code (by omega) c).1, by simp only; omega⟩
        · rename_i c
          rw [if_neg c] at h
          have := nxt_sym f (n + 1) _ h
          exact ⟨this.1, by omega⟩
theorem runT_le {b : List UInt8} {most s i j : Nat} {d : List Nat} {out o : List UInt8} (h : (runT most d out s).run (bitsL b) i = .ok o j) : o.length ≤ most := by
  rw [runT, run_bnd] at h
  cases h1 : (lenT s).run (bitsL b) i with
  | no e => rw [h1] at h; cases h
  | ok n k =>
    rw [h1] at h
    simp only [BR.bnd] at h
    rw [run_bnd] at h
    cases h2 : (nxtT d 15 0 0).run (bitsL b) k with
    | no e => rw [h2] at h; cases h
    | ok t k2 =>
      rw [h2] at h
      simp only [BR.bnd] at h
      rw [run_bnd] at h
      cases h3 : (disT t).run (bitsL b) k2 with
      | no e => rw [h3] at h; cases h
      | ok z k3 =>
        rw [h3] at h
        simp only [BR.bnd] at h
        split at h
        · cases h
        · split at h
          · cases h
          · simp only [BT.run, BR.ok.injEq] at h
            rw [← h.1, length_cpy]; omega
set_option maxHeartbeats 1000000 in
set_option maxRecDepth 100000 in
theorem inf_run_a [Tabs Tryz.prog] (t : Bool) (most : Nat) (hm : most ≤ 16777216) (nl : Bool) (b : List UInt8) (hb : b.length ≤ 1000000) (i : Nat) (hi : i ≤ 8 * b.length) (out : List UInt8) (ho : out.length ≤ most) (s : Nat) (hs : s < 1000) (d : List Nat) (hd : d.length ≤ 320) (hK : kraft d ≤ 32768) :
    Ans Tryz.prog n_inflate_unpacker_run [.op 1000 0 0, int (s : Int), .fp (.agg (trR d)) 0] (unI t most nl b i out) ((runT most d out s).run (bitsL b) i) (fun _ => int 0) (fun o j => unO 500 t most nl b j o) (fun e => int (e : Int)) 600 := by
  rw [runT, run_bnd]
  have hL := inf_length_a t most nl b hb i hi out s hs
  have hLi := fun a j (h : (lenT s).run (bitsL b) i = .ok a j) => (run_ok h).2 (by rw [length_bitsL]; exact hi)
  have hn58 := fun a j (h : (lenT s).run (bitsL b) i = .ok a j) => lenT_le h
  obtain ⟨r1, hr1⟩ : ∃ r, r = (lenT s).run (bitsL b) i := ⟨_, rfl⟩
  rw [← hr1] at hL hLi hn58 ⊢
  cases r1 with
  | no e1 =>
    have de : decide ((e1 : Int) = 0) = false := decide_eq_false (by have := hL.1; omega)
    refine ⟨hL.1, HCon.of' mix Tryz.func104 rfl Tryz.ntmps104 e_inflate_unpacker_run r_inflate_unpacker_run (by simp) (by simp only [AV.gl.glL, AV.gl, int, and_true]; exact ⟨by omega, trivial, glL_of_free 1 _ free_trR⟩) un_gl ?_⟩
    unfold s_inflate_unpacker_run
    repeat (first | refine wA ?_ | refine wB ?_ | refine wC rfl ?_ | refine wD rfl ?_ | refine wE ?_ | refine wF (by omega) ?_ | ((first | refine wG ?_ | refine wH ?_ | refine wI ?_ | refine wJ ?_ | refine wK ?_ | refine wL ?_); simp (disch := omega) only [wP, wZ, undef, seval, if_pos, if_neg, aStore, frz, AV.flat, ↓reduceIte, ne_eq, reduceCtorEq, ByteArray.size]))
    refine goC_h [(1000, 0), (1001, 0), (1002, 0)] 2000 hL.2 (by simp) (by simp) ?_ ?_ ?_
    iterate 2 (case _ => simp (disch := omega) only [wP, wZ, undef, seval, if_pos, if_neg, aStore, frz, AV.flat, ↓reduceIte, ne_eq, reduceCtorEq, ByteArray.size, unI, unR, rdR, ren_fxA, ren_tree])
    repeat (first | refine wA ?_ | refine wB ?_ | refine wC rfl ?_ | refine wD rfl ?_ | refine wE ?_ | refine wF (by omega) ?_ | ((first | refine wG ?_ | refine wH ?_ | refine wI ?_ | refine wJ ?_ | refine wK ?_ | refine wL ?_); simp (disch := omega) only [wP, wZ, undef, seval, if_pos, if_neg, aStore, frz, AV.flat, ↓reduceIte, ne_eq, reduceCtorEq, ByteArray.size, unI, unO, unR, rdR, ren_fxA, ren_tree, okI, noI, de]))
  | ok n j =>
    have hj := hLi n j rfl
    have hn := hn58 n j rfl
    rw [length_bitsL] at hj
    clear hr1 hLi hn58
    simp only [BR.bnd]
    rw [run_bnd, run_nxt]
    have hfc := nxt_facts (l := d) (B := (bitsL b).drop j) 15 0 0 (Nat.zero_le _)
    have hsy := nxt_sym (l := d) (B := (bitsL b).drop j) 15 0 0
    have hN := huff_Next_h d hd hK nl b hb j hj _ rfl
    rw [List.length_drop, length_bitsL] at hfc
    obtain ⟨⟨sy, m, e⟩, hr2⟩ : ∃ r, r = nxt d ((bitsL b).drop j) 15 0 0 := ⟨_, rfl⟩
    rw [← hr2] at hfc hsy hN ⊢
    simp only at hfc hsy hN
    clear hr2
    by_cases c2 : e = 0
    · subst c2
      have hsy := hsy rfl
      obtain ⟨q, hq⟩ : ∃ q, q = j + m := ⟨_, rfl⟩
      have hq8 : q ≤ 8 * b.length := by omega
      simp only [nxtR, if_true, BR.bnd]
      rw [← hq] at hN ⊢
      rw [run_bnd]
      have hD := inf_distance_a t most nl b hb q hq8 out sy (by omega)
      have hDi := fun a j (h : (disT sy).run (bitsL b) q = .ok a j) => (run_ok h).2 (by rw [length_bitsL]; exact hq8)
      have hD8 := fun a j (h : (disT sy).run (bitsL b) q = .ok a j) => disT_le h
      obtain ⟨r3, hr3⟩ : ∃ r, r = (disT sy).run (bitsL b) q := ⟨_, rfl⟩
      rw [← hr3] at hD hDi hD8 ⊢
      cases r3 with
      | no e3 =>
        have de : decide ((e3 : Int) = 0) = false := decide_eq_false (by have := hD.1; omega)
        refine ⟨hD.1, HCon.of' mix Tryz.func104 rfl Tryz.ntmps104 e_inflate_unpacker_run r_inflate_unpacker_run (by simp) (by simp only [AV.gl.glL, AV.gl, int, and_true]; exact ⟨by omega, trivial, glL_of_free 1 _ free_trR⟩) un_gl ?_⟩
        unfold s_inflate_unpacker_run
        repeat (first | refine wA ?_ | refine wB ?_ | refine wC rfl ?_ | refine wD rfl ?_ | refine wE ?_ | refine wF (by omega) ?_ | ((first | refine wG ?_ | refine wH ?_ | refine wI ?_ | refine wJ ?_ | refine wK ?_ | refine wL ?_); simp (disch := omega) only [wP, wZ, undef, seval, if_pos, if_neg, aStore, frz, AV.flat, ↓reduceIte, ne_eq, reduceCtorEq, ByteArray.size]))
        refine goC_h [(1000, 0), (1001, 0), (1002, 0)] 2000 hL (by simp) (by simp) ?_ ?_ ?_
        iterate 2 (case _ => simp (disch := omega) only [wP, wZ, undef, seval, if_pos, if_neg, aStore, frz, AV.flat, ↓reduceIte, ne_eq, reduceCtorEq, ByteArray.size, unI, unR, rdR, ren_fxA, ren_tree])
        repeat (first | refine wA ?_ | refine wB ?_ | refine wC rfl ?_ | refine wD rfl ?_ | refine wE ?_ | refine wF (by omega) ?_ | ((first | refine wG ?_ | refine wH ?_ | refine wI ?_ | refine wJ ?_ | refine wK ?_ | refine wL ?_); simp (disch := omega) only [wP, wZ, undef, seval, if_pos, if_neg, aStore, frz, AV.flat, ↓reduceIte, ne_eq, reduceCtorEq, ByteArray.size, unI, unO, unR, rdR, ren_fxA, ren_tree, okI, noI]))
        refine goC_h [(1001, 0)] 3000 hN (by simp) (by simp) ?_ ?_ ?_
        iterate 2 (case _ => simp (disch := omega) only [wP, wZ, undef, seval, if_pos, if_neg, aStore, frz, AV.flat, ↓reduceIte, ne_eq, reduceCtorEq, ByteArray.size, rdR, ren_tree])
        repeat (first | refine wA ?_ | refine wB ?_ | refine wC rfl ?_ | refine wD rfl ?_ | refine wE ?_ | refine wF (by omega) ?_ | ((first | refine wG ?_ | refine wH ?_ | refine wI ?_ | refine wJ ?_ | refine wK ?_ | refine wL ?_); simp (disch := omega) only [wP, wZ, undef, seval, if_pos, if_neg, aStore, frz, AV.flat, ↓reduceIte, ne_eq, reduceCtorEq, ByteArray.size, unI, unO, unR, rdR, ren_fxA, ren_tree, okI, noI]))
        refine goC_h [(1000, 0), (1001, 0), (1002, 0)] 4000 hD.2 (by simp) (by simp) ?_ ?_ ?_
        iterate 2 (case _ => simp (disch := omega) only [wP, wZ, undef, seval, if_pos, if_neg, aStore, frz, AV.flat, ↓reduceIte, ne_eq, reduceCtorEq, ByteArray.size, unI, unR, rdR, ren_fxA, ren_tree])
        repeat (first | refine wA ?_ | refine wB ?_ | refine wC rfl ?_ | refine wD rfl ?_ | refine wE ?_ | refine wF (by omega) ?_ | ((first | refine wG ?_ | refine wH ?_ | refine wI ?_ | refine wJ ?_ | refine wK ?_ | refine wL ?_); simp (disch := omega) only [wP, wZ, undef, seval, if_pos, if_neg, aStore, frz, AV.flat, ↓reduceIte, ne_eq, reduceCtorEq, ByteArray.size, unI, unO, unR, rdR, ren_fxA, ren_tree, okI, noI, de]))
      | ok k j2 =>
        have hj2 := hDi k j2 rfl
        have hk := hD8 k j2 rfl
        rw [length_bitsL] at hj2
        clear hr3 hDi hD8
        simp only [BR.bnd]
        by_cases c3 : out.length < k
        · rw [if_pos c3]
          have d3 : decide ((out.length : Int) < (k : Int)) = true := decide_eq_true (by omega)
          refine ⟨by omega, HCon.of' mix Tryz.func104 rfl Tryz.ntmps104 e_inflate_unpacker_run r_inflate_unpacker_run (by simp) (by simp only [AV.gl.glL, AV.gl, int, and_true]; exact ⟨by omega, trivial, glL_of_free 1 _ free_trR⟩) un_gl ?_⟩
          unfold s_inflate_unpacker_run
          repeat (first | refine wA ?_ | refine wB ?_ | refine wC rfl ?_ | refine wD rfl ?_ | refine wE ?_ | refine wF (by omega) ?_ | ((first | refine wG ?_ | refine wH ?_ | refine wI ?_ | refine wJ ?_ | refine wK ?_ | refine wL ?_); simp (disch := omega) only [wP, wZ, undef, seval, if_pos, if_neg, aStore, frz, AV.flat, ↓reduceIte, ne_eq, reduceCtorEq, ByteArray.size]))
          refine goC_h [(1000, 0), (1001, 0), (1002, 0)] 2000 hL (by simp) (by simp) ?_ ?_ ?_
          iterate 2 (case _ => simp (disch := omega) only [wP, wZ, undef, seval, if_pos, if_neg, aStore, frz, AV.flat, ↓reduceIte, ne_eq, reduceCtorEq, ByteArray.size, unI, unR, rdR, ren_fxA, ren_tree])
          repeat (first | refine wA ?_ | refine wB ?_ | refine wC rfl ?_ | refine wD rfl ?_ | refine wE ?_ | refine wF (by omega) ?_ | ((first | refine wG ?_ | refine wH ?_ | refine wI ?_ | refine wJ ?_ | refine wK ?_ | refine wL ?_); simp (disch := omega) only [wP, wZ, undef, seval, if_pos, if_neg, aStore, frz, AV.flat, ↓reduceIte, ne_eq, reduceCtorEq, ByteArray.size, unI, unO, unR, rdR, ren_fxA, ren_tree, okI, noI]))
          refine goC_h [(1001, 0)] 3000 hN (by simp) (by simp) ?_ ?_ ?_
          iterate 2 (case _ => simp (disch := omega) only [wP, wZ, undef, seval, if_pos, if_neg, aStore, frz, AV.flat, ↓reduceIte, ne_eq, reduceCtorEq, ByteArray.size, rdR, ren_tree])
          repeat (first | refine wA ?_ | refine wB ?_ | refine wC rfl ?_ | refine wD rfl ?_ | refine wE ?_ | refine wF (by omega) ?_ | ((first | refine wG ?_ | refine wH ?_ | refine wI ?_ | refine wJ ?_ | refine wK ?_ | refine wL ?_); simp (disch := omega) only [wP, wZ, undef, seval, if_pos, if_neg, aStore, frz, AV.flat, ↓reduceIte, ne_eq, reduceCtorEq, ByteArray.size, unI, unO, unR, rdR, ren_fxA, ren_tree, okI, noI]))
          refine goC_h [(1000, 0), (1001, 0), (1002, 0)] 4000 hD (by simp) (by simp) ?_ ?_ ?_
          iterate 2 (case _ => simp (disch := omega) only [wP, wZ, undef, seval, if_pos, if_neg, aStore, frz, AV.flat, ↓reduceIte, ne_eq, reduceCtorEq, ByteArray.size, unI, unR, rdR, ren_fxA, ren_tree])
          repeat (first | refine wA ?_ | refine wB ?_ | refine wC rfl ?_ | refine wD rfl ?_ | refine wE ?_ | refine wF (by omega) ?_ | ((first | refine wG ?_ | refine wH ?_ | refine wI ?_ | refine wJ ?_ | refine wK ?_ | refine wL ?_); simp (disch := omega) only [wP, wZ, undef, seval, if_pos, if_neg, aStore, frz, AV.flat, ↓reduceIte, ne_eq, reduceCtorEq, ByteArray.size, unI, unO, unR, rdR, ren_fxA, ren_tree, okI, noI, d3]))
        · rw [if_neg c3]
          have d3 : decide ((out.length : Int) < (k : Int)) = false := decide_eq_false (by omega)
          by_cases c4 : most < out.length + n
          · rw [if_pos c4]
            have d4 : decide (((most - out.length : Nat) : Int) < (n : Int)) = true := decide_eq_true (by omega)
            refine ⟨by omega, HCon.of' mix Tryz.func104 rfl Tryz.ntmps104 e_inflate_unpacker_run r_inflate_unpacker_run (by simp) (by simp only [AV.gl.glL, AV.gl, int, and_true]; exact ⟨by omega, trivial, glL_of_free 1 _ free_trR⟩) un_gl ?_⟩
            unfold s_inflate_unpacker_run
            repeat (first | refine wA ?_ | refine wB ?_ | refine wC rfl ?_ | refine wD rfl ?_ | refine wE ?_ | refine wF (by omega) ?_ | ((first | refine wG ?_ | refine wH ?_ | refine wI ?_ | refine wJ ?_ | refine wK ?_ | refine wL ?_); simp (disch := omega) only [wP, wZ, undef, seval, if_pos, if_neg, aStore, frz, AV.flat, ↓reduceIte, ne_eq, reduceCtorEq, ByteArray.size]))
            refine goC_h [(1000, 0), (1001, 0), (1002, 0)] 2000 hL (by simp) (by simp) ?_ ?_ ?_
            iterate 2 (case _ => simp (disch := omega) only [wP, wZ, undef, seval, if_pos, if_neg, aStore, frz, AV.flat, ↓reduceIte, ne_eq, reduceCtorEq, ByteArray.size, unI, unR, rdR, ren_fxA, ren_tree])
            repeat (first | refine wA ?_ | refine wB ?_ | refine wC rfl ?_ | refine wD rfl ?_ | refine wE ?_ | refine wF (by omega) ?_ | ((first | refine wG ?_ | refine wH ?_ | refine wI ?_ | refine wJ ?_ | refine wK ?_ | refine wL ?_); simp (disch := omega) only [wP, wZ, undef, seval, if_pos, if_neg, aStore, frz, AV.flat, ↓reduceIte, ne_eq, reduceCtorEq, ByteArray.size, unI, unO, unR, rdR, ren_fxA, ren_tree, okI, noI]))
            refine goC_h [(1001, 0)] 3000 hN (by simp) (by simp) ?_ ?_ ?_
            iterate 2 (case _ => simp (disch := omega) only [wP, wZ, undef, seval, if_pos, if_neg, aStore, frz, AV.flat, ↓reduceIte, ne_eq, reduceCtorEq, ByteArray.size, rdR, ren_tree])
            repeat (first | refine wA ?_ | refine wB ?_ | refine wC rfl ?_ | refine wD rfl ?_ | refine wE ?_ | refine wF (by omega) ?_ | ((first | refine wG ?_ | refine wH ?_ | refine wI ?_ | refine wJ ?_ | refine wK ?_ | refine wL ?_); simp (disch := omega) only [wP, wZ, undef, seval, if_pos, if_neg, aStore, frz, AV.flat, ↓reduceIte, ne_eq, reduceCtorEq, ByteArray.size, unI, unO, unR, rdR, ren_fxA, ren_tree, okI, noI]))
            refine goC_h [(1000, 0), (1001, 0), (1002, 0)] 4000 hD (by simp) (by simp) ?_ ?_ ?_
            iterate 2 (case _ => simp (disch := omega) only [wP, wZ, undef, seval, if_pos, if_neg, aStore, frz, AV.flat, ↓reduceIte, ne_eq, reduceCtorEq, ByteArray.size, unI, unR, rdR, ren_fxA, ren_tree])
            repeat (first | refine wA ?_ | refine wB ?_ | refine wC rfl ?_ | refine wD rfl ?_ | refine wE ?_ | refine wF (by omega) ?_ | ((first | refine wG ?_ | refine wH ?_ | refine wI ?_ | refine wJ ?_ | refine wK ?_ | refine wL ?_); simp (disch := omega) only [wP, wZ, undef, seval, if_pos, if_neg, aStore, frz, AV.flat, ↓reduceIte, ne_eq, reduceCtorEq, ByteArray.size, unI, unO, unR, rdR, ren_fxA, ren_tree, okI, noI, d3]))
            refine goC_h [(1000, 0), (1001, 0), (1002, 0)] 5000 (inf_room_h t most hm nl b j2 out ho) (by simp) (by simp) ?_ ?_ ?_
            iterate 2 (case _ => simp (disch := omega) only [wP, wZ, undef, seval, if_pos, if_neg, aStore, frz, AV.flat, ↓reduceIte, ne_eq, reduceCtorEq, ByteArray.size, unI, unR, rdR, ren_fxA, ren_tree])
            repeat (first | refine wA ?_ | refine wB ?_ | refine wC rfl ?_ | refine wD rfl ?_ | refine wE ?_ | refine wF (by omega) ?_ | ((first | refine wG ?_ | refine wH ?_ | refine wI ?_ | refine wJ ?_ | refine wK ?_ | refine wL ?_); simp (disch := omega) only [wP, wZ, undef, seval, if_pos, if_neg, aStore, frz, AV.flat, ↓reduceIte, ne_eq, reduceCtorEq, ByteArray.size, unI, unO, unR, rdR, ren_fxA, ren_tree, okI, noI, d4]))
          · rw [if_neg c4]
            have d4 : decide (((most - out.length : Nat) : Int) < (n : Int)) = false := decide_eq_false (by omega)
            refine HCon.of' mix Tryz.func104 rfl Tryz.ntmps104 e_inflate_unpacker_run r_inflate_unpacker_run (by simp) (by simp only [AV.gl.glL, AV.gl, int, and_true]; exact ⟨by omega, trivial, glL_of_free 1 _ free_trR⟩) un_gl ?_
            unfold s_inflate_unpacker_run
            repeat (first | refine wA ?_ | refine wB ?_ | refine wC rfl ?_ | refine wD rfl ?_ | refine wE ?_ | refine wF (by omega) ?_ | ((first | refine wG ?_ | refine wH ?_ | refine wI ?_ | refine wJ ?_ | refine wK ?_ | refine wL ?_); simp (disch := omega) only [wP, wZ, undef, seval, if_pos, if_neg, aStore, frz, AV.flat, ↓reduceIte, ne_eq, reduceCtorEq, ByteArray.size]))
            refine goC_h [(1000, 0), (1001, 0), (1002, 0)] 2000 hL (by simp) (by simp) ?_ ?_ ?_
            iterate 2 (case _ => simp (disch := omega) only [wP, wZ, undef, seval, if_pos, if_neg, aStore, frz, AV.flat, ↓reduceIte, ne_eq, reduceCtorEq, ByteArray.size, unI, unR, rdR, ren_fxA, ren_tree])
            repeat (first | refine wA ?_ | refine wB ?_ | refine wC rfl ?_ | refine wD rfl ?_ | refine wE ?_ | refine wF (by omega) ?_ | ((first | refine wG ?_ | refine wH ?_ | refine wI ?_ | refine wJ ?_ | refine wK ?_ | refine wL ?_); simp (disch := omega) only [wP, wZ, undef, seval, if_pos, if_neg, aStore, frz, AV.flat, ↓reduceIte, ne_eq, reduceCtorEq, ByteArray.size, unI, unO, unR, rdR, ren_fxA, ren_tree, okI, noI]))
            refine goC_h [(1001, 0)] 3000 hN (by simp) (by simp) ?_ ?_ ?_
            iterate 2 (case _ => simp (disch := omega) only [wP, wZ, undef, seval, if_pos, if_neg, aStore, frz, AV.flat, ↓reduceIte, ne_eq, reduceCtorEq, ByteArray.size, rdR, ren_tree])
            repeat (first | refine wA ?_ | refine wB ?_ | refine wC rfl ?_ | refine wD rfl ?_ | refine wE ?_ | refine wF (by omega) ?_ | ((first | refine wG ?_ | refine wH ?_ | refine wI ?_ | refine wJ ?_ | refine wK ?_ | refine wL ?_); simp (disch := omega) only [wP, wZ, undef, seval, if_pos, if_neg, aStore, frz, AV.flat, ↓reduceIte, ne_eq, reduceCtorEq, ByteArray.size, unI, unO, unR, rdR, ren_fxA, ren_tree, okI, noI]))
            refine goC_h [(1000, 0), (1001, 0), (1002, 0)] 4000 hD (by simp) (by simp) ?_ ?_ ?_
            iterate 2 (case _ => simp (disch := omega) only [wP, wZ, undef, seval, if_pos, if_neg, aStore, frz, AV.flat, ↓reduceIte, ne_eq, reduceCtorEq, ByteArray.size, unI, unR, rdR, ren_fxA, ren_tree])
            repeat (first | refine wA ?_ | refine wB ?_ | refine wC rfl ?_ | refine wD rfl ?_ | refine wE ?_ | refine wF (by omega) ?_ | ((first | refine wG ?_ | refine wH ?_ | refine wI ?_ | refine wJ ?_ | refine wK ?_ | refine wL ?_); simp (disch := omega) only [wP, wZ, undef, seval, if_pos, if_neg, aStore, frz, AV.flat, ↓reduceIte, ne_eq, reduceCtorEq, ByteArray.size, unI, unO, unR, rdR, ren_fxA, ren_tree, okI, noI, d3]))
            refine goC_h [(1000, 0), (1001, 0), (1002, 0)] 5000 (inf_room_h t most hm nl b j2 out ho) (by simp) (by simp) ?_ ?_ ?_
            iterate 2 (case _ => simp (disch := omega) only [wP, wZ, undef, seval, if_pos, if_neg, aStore, frz, AV.flat, ↓reduceIte, ne_eq, reduceCtorEq, ByteArray.size, unI, unR, rdR, ren_fxA, ren_tree])
            repeat (first | refine wA ?_ | refine wB ?_ | refine wC rfl ?_ | refine wD rfl ?_ | refine wE ?_ | refine wF (by omega) ?_ | ((first | refine wG ?_ | refine wH ?_ | refine wI ?_ | refine wJ ?_ | refine wK ?_ | refine wL ?_); simp (disch := omega) only [wP, wZ, undef, seval, if_pos, if_neg, aStore, frz, AV.flat, ↓reduceIte, ne_eq, reduceCtorEq, ByteArray.size, unI, unO, unR, rdR, ren_fxA, ren_tree, okI, noI, d4]))
            refine SWp.loop (α := Nat × Nat) (fun x => mk 77 (202 + x.1) [(0, .op 1000 0 0), (9, int (k : Int)), (51, int (n : Int)), (52, int (x.1 : Int))] [(1000, 0, .row false (unR t most x.2 (out.length + x.1))), (1001, 0, .row false (rdR nl b j2)), (1002, x.2, .row (nl0 (out.length + x.1)) ((cpy out k x.1).map u8))])
              (fun x => x.1 ≤ n) (fun x => n - x.1) (0, 0) (Nat.zero_le _) (le_mk rfl ?_ ?_ ?_) ?_
            · exact Nat.le_refl _
            iterate 2 (case _ => simp (disch := omega) only [wP, wZ, undef, seval, if_pos, if_neg, aStore, frz, AV.flat, ↓reduceIte, ne_eq, reduceCtorEq, ByteArray.size, unR, rdR, cpy])
            rintro ⟨x, g⟩ hx -
            simp only at hx
            have hcl := length_cpy (k := k) (n := x) (out := out)
            have hcs := cpy_snoc (k := k) (n := x) (out := out)
            obtain ⟨c, hc⟩ : ∃ c, c = cpy out k x := ⟨_, rfl⟩
            rw [← hc] at hcl hcs ⊢
            rw [hcl] at hcs
            repeat (first | refine wA ?_ | refine wB ?_ | refine wC rfl ?_ | refine wD rfl ?_ | refine wE ?_ | refine wF (by omega) ?_ | ((first | refine wG ?_ | refine wH ?_ | refine wI ?_ | refine wJ ?_ | refine wK ?_ | refine wL ?_); simp (disch := omega) only [wP, wZ, undef, seval, if_pos, if_neg, aStore, frz, AV.flat, ↓reduceIte, ne_eq, reduceCtorEq, ByteArray.size]))
            refine SWp.cond rfl (fun h => ?_) (fun h => ?_)
            · simp only [decide_eq_true_eq] at h
              obtain ⟨z, hz⟩ : ∃ z, z = out.length + x - k := ⟨_, rfl⟩
              have ez : (out.length : Int) + (x : Int) - (k : Int) = (z : Int) := by omega
              rw [← hz] at hcs
              obtain ⟨v, hv⟩ : ∃ v, v = c.getD z 0 := ⟨_, rfl⟩
              rw [← hv] at hcs
              have hn0 : nl0 (out.length + (x + 1)) = false := nl0_pos (by omega)
              repeat (first | refine wA ?_ | refine wB ?_ | refine wC rfl ?_ | refine wD rfl ?_ | refine wE ?_ | refine wF (by omega) ?_ | ((first | refine wG ?_ | refine wH ?_ | refine wI ?_ | refine wJ ?_ | refine wK ?_ | refine wL ?_); simp (disch := omega) only [wP, wZ, undef, seval, if_pos, if_neg, aStore, frz, AV.flat, ↓reduceIte, ne_eq, reduceCtorEq, ByteArray.size, unR, hcl, ez, ← hv, cells_fxA]))
              refine At.of (x + 1, 202 + x) (by simp only; omega) (by simp only; omega) rfl rfl ?_ ?_ ?_
              · simp only; omega
              iterate 2 (case _ => simp (disch := omega) only [wP, wZ, undef, seval, if_pos, if_neg, aStore, frz, AV.flat, ↓reduceIte, ne_eq, reduceCtorEq, ByteArray.size, unR, hcs, hn0, Nat.add_assoc])
            · simp only [decide_eq_false_iff_not] at h
              obtain rfl : x = n := by omega
              refine SWp.le (le_mk (N := 77) (gc := 500) (l := []) (h := [(1000, 0, .row false (unR t most g (out.length + x))), (1001, 0, .row false (rdR nl b j2)), (1002, g, .row (nl0 (out.length + x)) (c.map u8))]) rfl ?_ ?_ ?_) ?_
              · simp only; omega
              iterate 2 (case _ => simp (disch := omega) only [wP, wZ, undef, seval, if_pos, if_neg, aStore, frz, AV.flat, ↓reduceIte, ne_eq, reduceCtorEq, ByteArray.size])
              refine SWp.renew 1002 g (o := .row (nl0 (out.length + x)) (c.map u8)) (by simp (disch := omega) only [wP, wZ, undef, seval, if_pos, if_neg, aStore, frz, AV.flat, ↓reduceIte, ne_eq, reduceCtorEq, ByteArray.size]) ?_
              refine SWp.le (le_mk (N := 77) (gc := 501) (l := []) (h := [(1000, 0, .row false (unR t most 500 (out.length + x))), (1001, 0, .row false (rdR nl b j2)), (1002, 500, .row (nl0 (out.length + x)) (c.map u8))]) rfl ?_ ?_ ?_) ?_
              · exact Nat.le_refl _
              iterate 2 (case _ => simp (disch := omega) only [wP, wZ, undef, seval, if_pos, if_neg, aStore, frz, AV.flat, ↓reduceIte, ne_eq, reduceCtorEq, ByteArray.size, rgn_eq, rgH_at, unR, rdR, ren_fxA])
              repeat (first | refine wA ?_ | refine wB ?_ | refine wC rfl ?_ | refine wD rfl ?_ | refine wE ?_ | refine wF (by omega) ?_ | ((first | refine wG ?_ | refine wH ?_ | refine wI ?_ | refine wJ ?_ | refine wK ?_ | refine wL ?_); simp (disch := omega) only [wP, wZ, undef, seval, if_pos, if_neg, aStore, frz, AV.flat, ↓reduceIte, ne_eq, reduceCtorEq, ByteArray.size, unO, unR, rdR, hcl, ← hc]))
    · simp only [nxtR, if_neg c2, BR.bnd]
      have he : e ≠ 0 ∧ e ≤ 10 := by omega
      have de : decide ((e : Int) = 0) = false := decide_eq_false (by omega)
      refine ⟨he, HCon.of' mix Tryz.func104 rfl Tryz.ntmps104 e_inflate_unpacker_run r_inflate_unpacker_run (by simp) (by simp only [AV.gl.glL, AV.gl, int, and_true]; exact ⟨by omega, trivial, glL_of_free 1 _ free_trR⟩) un_gl ?_⟩
      unfold s_inflate_unpacker_run
      repeat (first | refine wA ?_ | refine wB ?_ | refine wC rfl ?_ | refine wD rfl ?_ | refine wE ?_ | refine wF (by omega) ?_ | ((first | refine wG ?_ | refine wH ?_ | refine wI ?_ | refine wJ ?_ | refine wK ?_ | refine wL ?_); simp (disch := omega) only [wP, wZ, undef, seval, if_pos, if_neg, aStore, frz, AV.flat, ↓reduceIte, ne_eq, reduceCtorEq, ByteArray.size]))
      refine goC_h [(1000, 0), (1001, 0), (1002, 0)] 2000 hL (by simp) (by simp) ?_ ?_ ?_
      iterate 2 (case _ => simp (disch := omega) only [wP, wZ, undef, seval, if_pos, if_neg, aStore, frz, AV.flat, ↓reduceIte, ne_eq, reduceCtorEq, ByteArray.size, unI, unR, rdR, ren_fxA, ren_tree])
      repeat (first | refine wA ?_ | refine wB ?_ | refine wC rfl ?_ | refine wD rfl ?_ | refine wE ?_ | refine wF (by omega) ?_ | ((first | refine wG ?_ | refine wH ?_ | refine wI ?_ | refine wJ ?_ | refine wK ?_ | refine wL ?_); simp (disch := omega) only [wP, wZ, undef, seval, if_pos, if_neg, aStore, frz, AV.flat, ↓reduceIte, ne_eq, reduceCtorEq, ByteArray.size, unI, unO, unR, rdR, ren_fxA, ren_tree, okI, noI]))
      refine goC_h [(1001, 0)] 3000 hN (by simp) (by simp) ?_ ?_ ?_
      iterate 2 (case _ => simp (disch := omega) only [wP, wZ, undef, seval, if_pos, if_neg, aStore, frz, AV.flat, ↓reduceIte, ne_eq, reduceCtorEq, ByteArray.size, rdR, ren_tree])
      repeat (first | refine wA ?_ | refine wB ?_ | refine wC rfl ?_ | refine wD rfl ?_ | refine wE ?_ | refine wF (by omega) ?_ | ((first | refine wG ?_ | refine wH ?_ | refine wI ?_ | refine wJ ?_ | refine wK ?_ | refine wL ?_); simp (disch := omega) only [wP, wZ, undef, seval, if_pos, if_neg, aStore, frz, AV.flat, ↓reduceIte, ne_eq, reduceCtorEq, ByteArray.size, unI, unO, unR, rdR, ren_fxA, ren_tree, okI, noI, de]))
end Go.Proofs.YtbcncdpaigljeaaGreatDoor.Aw
namespace Go.Proofs.YtbcncdpaigljeaaGreatDoor.Aw
open Go
set_option linter.unusedSimpArgs false
set_option linter.unusedVariables false
def ansE {α : Type} : BR α → AV
  | .ok _ _ => int 0
  | .no e => int (e : Int)
def houS (K : Nat) (t : Bool) (most : Nat) (nl : Bool) (b : List UInt8) : BR (List UInt8) → List (Nat × Nat × AO)
  | .ok o j => unO K t most nl b j o
  | .no _ => []
set_option maxHeartbeats 1000000 in
set_option maxRecDepth 100000 in
theorem inf_symbols_h [Tabs Tryz.prog] (t : Bool) (most : Nat) (hm : most ≤ 16777216) (nl : Bool) (b : List UInt8) (hb : b.length ≤ 1000000) (i : Nat) (hi : i ≤ 8 * b.length) (out : List UInt8) (ho : out.length ≤ most)
    (l d : List Nat) (hl : l.length ≤ 320) (hKl : kraft l ≤ 32768) (hd : d.length ≤ 320) (hK : kraft d ≤ 32768) (F : Nat) (hF : 8 * b.length - i < F) (r : BR (List UInt8)) (hr : (symT l d most F out).run (bitsL b) i = r) :
    HCon Tryz.prog n_inflate_unpacker_symbols [.op 1000 0 0, cds l d] (unI t most nl b i out) (ansE r) (houS (1000 * F + 1) t most nl b r) (1000 * F + 2) := by
  refine HCon.of' mix Tryz.func58 rfl Tryz.ntmps58 e_inflate_unpacker_symbols r_inflate_unpacker_symbols (by simp) (by simp only [AV.gl.glL, AV.gl, and_true]; exact ⟨by omega, gl_of_free 1 _ free_cds⟩) un_gl ?_
  unfold s_inflate_unpacker_symbols
  repeat (first | refine wA ?_ | refine wB ?_ | refine wC rfl ?_ | refine wD rfl ?_ | refine wE ?_ | refine wF (by omega) ?_ | ((first | refine wG ?_ | refine wH ?_ | refine wI ?_ | refine wJ ?_ | refine wK ?_ | refine wL ?_); simp (disch := omega) only [wP, wZ, undef, seval, if_pos, if_neg, aStore, frz, AV.flat, ↓reduceIte, ne_eq, reduceCtorEq, ByteArray.size]))
  refine SWp.loop (α := Nat × List UInt8 × Nat × Nat × Nat) (fun x => mk 45 x.2.2.2.2 [(0, .op 1000 0 0), (1, cds l d)] [(1000, 0, .row false (unR t most x.2.2.2.1 x.2.1.length)), (1001, 0, .row false (rdR nl b x.2.2.1)), (1002, x.2.2.2.1, .row (nl0 x.2.1.length) (x.2.1.map u8))])
    (fun x => (symT l d most x.1 x.2.1).run (bitsL b) x.2.2.1 = r ∧ x.2.2.1 ≤ 8 * b.length ∧ 8 * b.length - x.2.2.1 < x.1 ∧ x.2.1.length ≤ most ∧ x.2.2.2.2 + 1000 * x.1 ≤ 1000 * F + 1) (fun x => x.1) (F, out, i, 0, 1) ⟨hr, hi, hF, ho, by simp only; omega⟩ (le_mk rfl ?_ ?_ ?_) ?_
  · exact Nat.le_refl _
  iterate 2 (case _ => simp (disch := omega) only [wP, wZ, undef, seval, if_pos, if_neg, aStore, frz, AV.flat, ↓reduceIte, ne_eq, reduceCtorEq, ByteArray.size, unI])
  rintro ⟨f, o, p, g, c⟩ ⟨hx, hp, hf, hom, hc⟩ -
  simp only at hx hp hf hom hc
  obtain ⟨f, rfl⟩ : ∃ f', f = f' + 1 := ⟨f - 1, by omega⟩
  rw [symT, run_bnd, run_nxt] at hx
  have hfc := nxt_facts (l := l) (B := (bitsL b).drop p) 15 0 0 (Nat.zero_le _)
  have hsy := nxt_sym (l := l) (B := (bitsL b).drop p) 15 0 0
  have hN := huff_Next_h l hl hKl nl b hb p hp _ rfl
  rw [List.length_drop, length_bitsL] at hfc
  obtain ⟨⟨sy, m, e⟩, hr2⟩ : ∃ r, r = nxt l ((bitsL b).drop p) 15 0 0 := ⟨_, rfl⟩
  rw [← hr2] at hfc hsy hN hx
  simp only at hfc hsy hN
  clear hr2 hr
  by_cases c2 : e = 0
  · subst c2
    have hsy := hsy rfl
    obtain ⟨q, hq⟩ : ∃ q, q = p + m := ⟨_, rfl⟩
    have hq8 : q ≤ 8 * b.length := by omega
    simp only [nxtR, if_true, BR.bnd] at hx
    rw [← hq] at hN hx
    by_cases c3 : sy < 256
    · rw [if_pos c3] at hx
      have d3 : decide ((sy : Int) < 256) = true := decide_eq_true (by omega)
      obtain ⟨v, rfl⟩ : ∃ v : UInt8, sy = v.toNat := ⟨UInt8.ofNat sy, by rw [UInt8.toNat_ofNat', Nat.mod_eq_of_lt (by omega)]⟩
      rw [UInt8.ofNat_toNat] at hx
      have hv := v.toNat_lt
      by_cases c4 : most ≤ o.length
      · rw [if_pos c4] at hx
        simp only [BT.run] at hx
        subst hx
        have hL := inf_literal_no t most hm nl b q o hom v c4
        repeat (first | refine wA ?_ | refine wB ?_ | refine wC rfl ?_ | refine wD rfl ?_ | refine wE ?_ | refine wF (by omega) ?_ | ((first | refine wG ?_ | refine wH ?_ | refine wI ?_ | refine wJ ?_ | refine wK ?_ | refine wL ?_); simp (disch := omega) only [wP, wZ, undef, seval, if_pos, if_neg, aStore, frz, AV.flat, ↓reduceIte, ne_eq, reduceCtorEq, ByteArray.size, cds, unR]))
        refine goC_h [(1001, 0)] 2000 hN (by simp) (by simp) ?_ ?_ ?_
        iterate 2 (case _ => simp (disch := omega) only [wP, wZ, undef, seval, if_pos, if_neg, aStore, frz, AV.flat, ↓reduceIte, ne_eq, reduceCtorEq, ByteArray.size, rdR, ren_tree])
        repeat (first | refine wA ?_ | refine wB ?_ | refine wC rfl ?_ | refine wD rfl ?_ | refine wE ?_ | refine wF (by omega) ?_ | ((first | refine wG ?_ | refine wH ?_ | refine wI ?_ | refine wJ ?_ | refine wK ?_ | refine wL ?_); simp (disch := omega) only [wP, wZ, undef, seval, if_pos, if_neg, aStore, frz, AV.flat, ↓reduceIte, ne_eq, reduceCtorEq, ByteArray.size, unR, rdR, d3]))
        refine goC_h [(1000, 0), (1001, 0), (1002, g)] 3000 hL (by simp) (by simp) ?_ ?_ ?_
        iterate 2 (case _ => simp (disch := omega) only [wP, wZ, undef, seval, if_pos, if_neg, aStore, frz, AV.flat, ↓reduceIte, ne_eq, reduceCtorEq, ByteArray.size, unI, unR, rdR, ren_fxA])
        repeat (first | refine wA ?_ | refine wB ?_ | refine wC rfl ?_ | refine wD rfl ?_ | refine wE ?_ | refine wF (by omega) ?_ | ((first | refine wG ?_ | refine wH ?_ | refine wI ?_ | refine wJ ?_ | refine wK ?_ | refine wL ?_); simp (disch := omega) only [wP, wZ, undef, seval, if_pos, if_neg, aStore, frz, AV.flat, ↓reduceIte, ne_eq, reduceCtorEq, ByteArray.size, ansE, houS]))
        omega
      · rw [if_neg c4] at hx
        have hL := inf_literal_h t most hm nl b q o (by omega) v
        repeat (first | refine wA ?_ | refine wB ?_ | refine wC rfl ?_ | refine wD rfl ?_ | refine wE ?_ | refine wF (by omega) ?_ | ((first | refine wG ?_ | refine wH ?_ | refine wI ?_ | refine wJ ?_ | refine wK ?_ | refine wL ?_); simp (disch := omega) only [wP, wZ, undef, seval, if_pos, if_neg, aStore, frz, AV.flat, ↓reduceIte, ne_eq, reduceCtorEq, ByteArray.size, cds, unR]))
        refine goC_h [(1001, 0)] 2000 hN (by simp) (by simp) ?_ ?_ ?_
        iterate 2 (case _ => simp (disch := omega) only [wP, wZ, undef, seval, if_pos, if_neg, aStore, frz, AV.flat, ↓reduceIte, ne_eq, reduceCtorEq, ByteArray.size, rdR, ren_tree])
        repeat (first | refine wA ?_ | refine wB ?_ | refine wC rfl ?_ | refine wD rfl ?_ | refine wE ?_ | refine wF (by omega) ?_ | ((first | refine wG ?_ | refine wH ?_ | refine wI ?_ | refine wJ ?_ | refine wK ?_ | refine wL ?_); simp (disch := omega) only [wP, wZ, undef, seval, if_pos, if_neg, aStore, frz, AV.flat, ↓reduceIte, ne_eq, reduceCtorEq, ByteArray.size, unR, rdR, d3]))
        refine goC_h [(1000, 0), (1001, 0), (1002, g)] 3000 hL (by simp) (by simp) ?_ ?_ ?_
        iterate 2 (case _ => simp (disch := omega) only [wP, wZ, undef, seval, if_pos, if_neg, aStore, frz, AV.flat, ↓reduceIte, ne_eq, reduceCtorEq, ByteArray.size, unI, unR, rdR, ren_fxA])
        repeat (first | refine wA ?_ | refine wB ?_ | refine wC rfl ?_ | refine wD rfl ?_ | refine wE ?_ | refine wF (by omega) ?_ | ((first | refine wG ?_ | refine wH ?_ | refine wI ?_ | refine wJ ?_ | refine wK ?_ | refine wL ?_); simp (disch := omega) only [wP, wZ, undef, seval, if_pos, if_neg, aStore, frz, AV.flat, ↓reduceIte, ne_eq, reduceCtorEq, ByteArray.size, unO, unR, rdR, ren_fxA]))
        refine At.of (f, o ++ [v], q, c + 100 + 2, c + 110) ⟨hx, hq8, by simp only; omega, by simp only [List.length_append, List.length_singleton]; omega, by simp only; omega⟩ (by simp only; omega) rfl rfl ?_ ?_ ?_
        · simp only; omega
        iterate 2 (case _ => simp (disch := omega) only [wP, wZ, undef, seval, if_pos, if_neg, aStore, frz, AV.flat, ↓reduceIte, ne_eq, reduceCtorEq, ByteArray.size, cds, unR, rdR, nl0_succ])
    · rw [if_neg c3] at hx
      have d3 : decide ((sy : Int) < 256) = false := decide_eq_false (by omega)
      by_cases c4 : sy = 256
      · rw [if_pos c4] at hx
        simp only [BT.run] at hx
        subst hx c4
        repeat (first | refine wA ?_ | refine wB ?_ | refine wC rfl ?_ | refine wD rfl ?_ | refine wE ?_ | refine wF (by omega) ?_ | ((first | refine wG ?_ | refine wH ?_ | refine wI ?_ | refine wJ ?_ | refine wK ?_ | refine wL ?_); simp (disch := omega) only [wP, wZ, undef, seval, if_pos, if_neg, aStore, frz, AV.flat, ↓reduceIte, ne_eq, reduceCtorEq, ByteArray.size, cds, unR]))
        refine goC_h [(1001, 0)] 2000 hN (by simp) (by simp) ?_ ?_ ?_
        iterate 2 (case _ => simp (disch := omega) only [wP, wZ, undef, seval, if_pos, if_neg, aStore, frz, AV.flat, ↓reduceIte, ne_eq, reduceCtorEq, ByteArray.size, rdR, ren_tree])
        iterate 1 (first | refine wA ?_ | refine wB ?_ | refine wC rfl ?_ | refine wD rfl ?_ | refine wE ?_ | refine wF (by omega) ?_ | ((first | refine wG ?_ | refine wH ?_ | refine wI ?_ | refine wJ ?_ | refine wK ?_ | refine wL ?_); simp (disch := omega) only [wP, wZ, undef, seval, if_pos, if_neg, aStore, frz, AV.flat, ↓reduceIte, ne_eq, reduceCtorEq, ByteArray.size, unR, rdR]))
        refine SWp.le (le_mk (N := 45) (gc := 1000 * F + 1) (l := [(0, .op 1000 0 0), (5, int 256), (6, int 0)]) (h := [(1000, 0, .row false (unR t most g o.length)), (1001, 0, .row false (rdR nl b q)), (1002, g, .row (nl0 o.length) (o.map u8))]) rfl ?_ ?_ ?_) ?_
        · simp only; omega
        iterate 2 (case _ => simp (disch := omega) only [wP, wZ, undef, seval, if_pos, if_neg, aStore, frz, AV.flat, ↓reduceIte, ne_eq, reduceCtorEq, ByteArray.size, unR, rdR])
        refine SWp.renew 1002 g (o := .row (nl0 o.length) (o.map u8)) (by simp (disch := omega) only [wP, wZ, undef, seval, if_pos, if_neg, aStore, frz, AV.flat, ↓reduceIte, ne_eq, reduceCtorEq, ByteArray.size]) ?_
        refine SWp.le (le_mk (N := 45) (gc := 1000 * F + 2) (l := [(0, .op 1000 0 0), (5, int 256), (6, int 0)]) (h := [(1000, 0, .row false (unR t most (1000 * F + 1) o.length)), (1001, 0, .row false (rdR nl b q)), (1002, 1000 * F + 1, .row (nl0 o.length) (o.map u8))]) rfl ?_ ?_ ?_) ?_
        · exact Nat.le_refl _
        iterate 2 (case _ => simp (disch := omega) only [wP, wZ, undef, seval, if_pos, if_neg, aStore, frz, AV.flat, ↓reduceIte, ne_eq, reduceCtorEq, ByteArray.size, rgn_eq, rgH_at, unR, rdR, ren_fxA])
        repeat (first | refine wA ?_ | refine wB ?_ | refine wC rfl ?_ | refine wD rfl ?_ | refine wE ?_ | refine wF (by omega) ?_ | ((first | refine wG ?_ | refine wH ?_ | refine wI ?_ | refine wJ ?_ | refine wK ?_ | refine wL ?_); simp (disch := omega) only [wP, wZ, undef, seval, if_pos, if_neg, aStore, frz, AV.flat, ↓reduceIte, ne_eq, reduceCtorEq, ByteArray.size, ansE, houS, unO, unR, rdR]))
      · rw [if_neg c4] at hx
        have d4 : decide ((sy : Int) = 256) = false := decide_eq_false (by omega)
        have es : (sy : Int) - 256 - 1 = ((sy - 257 : Nat) : Int) := by omega
        rw [run_bnd] at hx
        have hR := inf_run_a t most hm nl b hb q hq8 o hom (sy - 257) (by omega) d hd hK
        obtain ⟨z, hz⟩ : ∃ z, z = sy - 257 := ⟨_, rfl⟩
        rw [← hz] at hR hx es
        have hRi := fun a j (h : (runT most d o z).run (bitsL b) q = .ok a j) => run_ok h
        have hRm := fun a j (h : (runT most d o z).run (bitsL b) q = .ok a j) => runT_le h
        rw [length_bitsL] at hRi
        obtain ⟨r3, hr3⟩ : ∃ r, r = (runT most d o z).run (bitsL b) q := ⟨_, rfl⟩
        rw [← hr3] at hR hRi hRm hx
        cases r3 with
        | no e3 =>
          simp only [BR.bnd] at hx
          subst hx
          have de : decide ((e3 : Int) = 0) = false := decide_eq_false (by have := hR.1; omega)
          repeat (first | refine wA ?_ | refine wB ?_ | refine wC rfl ?_ | refine wD rfl ?_ | refine wE ?_ | refine wF (by omega) ?_ | ((first | refine wG ?_ | refine wH ?_ | refine wI ?_ | refine wJ ?_ | refine wK ?_ | refine wL ?_); simp (disch := omega) only [wP, wZ, undef, seval, if_pos, if_neg, aStore, frz, AV.flat, ↓reduceIte, ne_eq, reduceCtorEq, ByteArray.size, cds, unR]))
          refine goC_h [(1001, 0)] 2000 hN (by simp) (by simp) ?_ ?_ ?_
          iterate 2 (case _ => simp (disch := omega) only [wP, wZ, undef, seval, if_pos, if_neg, aStore, frz, AV.flat, ↓reduceIte, ne_eq, reduceCtorEq, ByteArray.size, rdR, ren_tree])
          repeat (first | refine wA ?_ | refine wB ?_ | refine wC rfl ?_ | refine wD rfl ?_ | refine wE ?_ | refine wF (by omega) ?_ | ((first | refine wG ?_ | refine wH ?_ | refine wI ?_ | refine wJ ?_ | refine wK ?_ | refine wL ?_); simp (disch := omega) only [wP, wZ, undef, seval, if_pos, if_neg, aStore, frz, AV.flat, ↓reduceIte, ne_eq, reduceCtorEq, ByteArray.size, unR, rdR, d3, d4, es]))
          refine goC_h [(1000, 0), (1001, 0), (1002, g)] 3000 hR.2 (by simp) (by simp) ?_ ?_ ?_
          iterate 2 (case _ => simp (disch := omega) only [wP, wZ, undef, seval, if_pos, if_neg, aStore, frz, AV.flat, ↓reduceIte, ne_eq, reduceCtorEq, ByteArray.size, unI, unR, rdR, ren_fxA, ren_tree])
          repeat (first | refine wA ?_ | refine wB ?_ | refine wC rfl ?_ | refine wD rfl ?_ | refine wE ?_ | refine wF (by omega) ?_ | ((first | refine wG ?_ | refine wH ?_ | refine wI ?_ | refine wJ ?_ | refine wK ?_ | refine wL ?_); simp (disch := omega) only [wP, wZ, undef, seval, if_pos, if_neg, aStore, frz, AV.flat, ↓reduceIte, ne_eq, reduceCtorEq, ByteArray.size, ansE, houS, de]))
          omega
        | ok o2 j =>
          have hj := hRi o2 j rfl
          have hm2 := hRm o2 j rfl
          simp only [BR.bnd] at hx
          repeat (first | refine wA ?_ | refine wB ?_ | refine wC rfl ?_ | refine wD rfl ?_ | refine wE ?_ | refine wF (by omega) ?_ | ((first | refine wG ?_ | refine wH ?_ | refine wI ?_ | refine wJ ?_ | refine wK ?_ | refine wL ?_); simp (disch := omega) only [wP, wZ, undef, seval, if_pos, if_neg, aStore, frz, AV.flat, ↓reduceIte, ne_eq, reduceCtorEq, ByteArray.size, cds, unR]))
          refine goC_h [(1001, 0)] 2000 hN (by simp) (by simp) ?_ ?_ ?_
          iterate 2 (case _ => simp (disch := omega) only [wP, wZ, undef, seval, if_pos, if_neg, aStore, frz, AV.flat, ↓reduceIte, ne_eq, reduceCtorEq, ByteArray.size, rdR, ren_tree])
          repeat (first | refine wA ?_ | refine wB ?_ | refine wC rfl ?_ | refine wD rfl ?_ | refine wE ?_ | refine wF (by omega) ?_ | ((first | refine wG ?_ | refine wH ?_ | refine wI ?_ | refine wJ ?_ | refine wK ?_ | refine wL ?_); simp (disch := omega) only [wP, wZ, undef, seval, if_pos, if_neg, aStore, frz, AV.flat, ↓reduceIte, ne_eq, reduceCtorEq, ByteArray.size, unR, rdR, d3, d4, es]))
          refine goC_h [(1000, 0), (1001, 0), (1002, g)] 3000 hR (by simp) (by simp) ?_ ?_ ?_
          iterate 2 (case _ => simp (disch := omega) only [wP, wZ, undef, seval, if_pos, if_neg, aStore, frz, AV.flat, ↓reduceIte, ne_eq, reduceCtorEq, ByteArray.size, unI, unR, rdR, ren_fxA, ren_tree])
          repeat (first | refine wA ?_ | refine wB ?_ | refine wC rfl ?_ | refine wD rfl ?_ | refine wE ?_ | refine wF (by omega) ?_ | ((first | refine wG ?_ | refine wH ?_ | refine wI ?_ | refine wJ ?_ | refine wK ?_ | refine wL ?_); simp (disch := omega) only [wP, wZ, undef, seval, if_pos, if_neg, aStore, frz, AV.flat, ↓reduceIte, ne_eq, reduceCtorEq, ByteArray.size, unO, unR, rdR, ren_fxA]))
          refine At.of (f, o2, j, c + 100 + 500, c + 700) ⟨hx, hj.2 hq8, by simp only; omega, hm2, by simp only; omega⟩ (by simp only; omega) rfl rfl ?_ ?_ ?_
          · simp only; omega
          iterate 2 (case _ => simp (disch := omega) only [wP, wZ, undef, seval, if_pos, if_neg, aStore, frz, AV.flat, ↓reduceIte, ne_eq, reduceCtorEq, ByteArray.size, cds, unR, rdR])
  · simp only [nxtR, if_neg c2, BR.bnd] at hx
    have de : decide ((e : Int) = 0) = false := decide_eq_false (by omega)
    subst hx
    repeat (first | refine wA ?_ | refine wB ?_ | refine wC rfl ?_ | refine wD rfl ?_ | refine wE ?_ | refine wF (by omega) ?_ | ((first | refine wG ?_ | refine wH ?_ | refine wI ?_ | refine wJ ?_ | refine wK ?_ | refine wL ?_); simp (disch := omega) only [wP, wZ, undef, seval, if_pos, if_neg, aStore, frz, AV.flat, ↓reduceIte, ne_eq, reduceCtorEq, ByteArray.size, cds, unR]))
    refine goC_h [(1001, 0)] 2000 hN (by simp) (by simp) ?_ ?_ ?_
    iterate 2 (case _ => simp (disch := omega) only [wP, wZ, undef, seval, if_pos, if_neg, aStore, frz, AV.flat, ↓reduceIte, ne_eq, reduceCtorEq, ByteArray.size, rdR, ren_tree])
    repeat (first | refine wA ?_ | refine wB ?_ | refine wC rfl ?_ | refine wD rfl ?_ | refine wE ?_ | refine wF (by omega) ?_ | ((first | refine wG ?_ | refine wH ?_ | refine wI ?_ | refine wJ ?_ | refine wK ?_ | refine wL ?_); simp (disch := omega) only [wP, wZ, undef, seval, if_pos, if_neg, aStore, frz, AV.flat, ↓reduceIte, ne_eq, reduceCtorEq, ByteArray.size, ansE, houS, de]))
    omega
end Go.Proofs.YtbcncdpaigljeaaGreatDoor.Aw
namespace Go.Proofs.YtbcncdpaigljeaaGreatDoor.Aw
open Go
set_option linter.unusedSimpArgs false
set_option linter.unusedVariables false
set_option maxHeartbeats 1000000 in
set_option maxRecDepth 100000 in
theorem inf_stored_h [Tabs Tryz.prog] (t : Bool) (most : Nat) (hm : most ≤ 16777216) (nl : Bool) (b : List UInt8) (hb : b.length ≤ 1000000) (hnl : nl = true → b = []) (i : Nat) (hi : i ≤ 8 * b.length) (out : List UInt8) (ho : out.length ≤ most) (r : BR (List UInt8)) (hr : (stoT most out).run (bitsL b) i = r) :
    HCon Tryz.prog n_inflate_unpacker_stored [.op 1000 0 0] (unI t most nl b i out) (ansE r) (houS 73 t most nl b r) 80 := by
  refine HCon.of' mix Tryz.func56 rfl Tryz.ntmps56 e_inflate_unpacker_stored r_inflate_unpacker_stored (by simp) (by simp [AV.gl, AV.gl.glL]) un_gl ?_
  unfold s_inflate_unpacker_stored
  rw [run_stoT hi] at hr
  obtain ⟨q, hq⟩ : ∃ q, q = (i + 7) / 8 := ⟨_, rfl⟩
  rw [← hq] at hr
  have hAl := huff_Align_h nl b hb i hi
  rw [← hq] at hAl
  repeat (first | refine wA ?_ | refine wB ?_ | refine wC rfl ?_ | refine wD rfl ?_ | refine wE ?_ | refine wF (by omega) ?_ | ((first | refine wG ?_ | refine wH ?_ | refine wI ?_ | refine wJ ?_ | refine wK ?_ | refine wL ?_); simp (disch := omega) only [wP, wZ, undef, seval, if_pos, if_neg, aStore, frz, AV.flat, ↓reduceIte, ne_eq, reduceCtorEq, ByteArray.size, unI, unR]))
  refine goC_h [(1001, 0)] 2000 hAl (by simp) (by simp) ?_ ?_ ?_
  iterate 2 (case _ => simp (disch := omega) only [wP, wZ, undef, seval, if_pos, if_neg, aStore, frz, AV.flat, ↓reduceIte, ne_eq, reduceCtorEq, ByteArray.size, rdR])
  by_cases c1 : 8 * b.length < q * 8 + 16
  · rw [if_pos c1] at hr
    subst hr
    have hT := huff_Take_no nl b hb (q * 8) (by omega) 16 (decide_eq_false (by omega))
    repeat (first | refine wA ?_ | refine wB ?_ | refine wC rfl ?_ | refine wD rfl ?_ | refine wE ?_ | refine wF (by omega) ?_ | ((first | refine wG ?_ | refine wH ?_ | refine wI ?_ | refine wJ ?_ | refine wK ?_ | refine wL ?_); simp (disch := omega) only [wP, wZ, undef, seval, if_pos, if_neg, aStore, frz, AV.flat, ↓reduceIte, ne_eq, reduceCtorEq, ByteArray.size, rdR, unR]))
    refine goC_h [(1001, 0)] 3000 hT (by simp) (by simp) ?_ ?_ ?_
    iterate 2 (case _ => simp (disch := omega) only [wP, wZ, undef, seval, if_pos, if_neg, aStore, frz, AV.flat, ↓reduceIte, ne_eq, reduceCtorEq, ByteArray.size, rdR])
    repeat (first | refine wA ?_ | refine wB ?_ | refine wC rfl ?_ | refine wD rfl ?_ | refine wE ?_ | refine wF (by omega) ?_ | ((first | refine wG ?_ | refine wH ?_ | refine wI ?_ | refine wJ ?_ | refine wK ?_ | refine wL ?_); simp (disch := omega) only [wP, wZ, undef, seval, if_pos, if_neg, aStore, frz, AV.flat, ↓reduceIte, ne_eq, reduceCtorEq, ByteArray.size, ansE, houS]))
  · rw [if_neg c1] at hr
    have hT := huff_Take_h nl b hb (q * 8) (by omega) 16 (by omega) (by omega)
    have hx1 := numAt_lt (b := b) (i := q * 8) (n := 16)
    obtain ⟨x, hx⟩ : ∃ x, x = numAt b (q * 8) 16 := ⟨_, rfl⟩
    rw [← hx] at hT hr hx1
    repeat (first | refine wA ?_ | refine wB ?_ | refine wC rfl ?_ | refine wD rfl ?_ | refine wE ?_ | refine wF (by omega) ?_ | ((first | refine wG ?_ | refine wH ?_ | refine wI ?_ | refine wJ ?_ | refine wK ?_ | refine wL ?_); simp (disch := omega) only [wP, wZ, undef, seval, if_pos, if_neg, aStore, frz, AV.flat, ↓reduceIte, ne_eq, reduceCtorEq, ByteArray.size, rdR, unR]))
    refine goC_h [(1001, 0)] 3000 hT (by simp) (by simp) ?_ ?_ ?_
    iterate 2 (case _ => simp (disch := omega) only [wP, wZ, undef, seval, if_pos, if_neg, aStore, frz, AV.flat, ↓reduceIte, ne_eq, reduceCtorEq, ByteArray.size, rdR])
    by_cases c2 : 8 * b.length < q * 8 + 32
    · rw [if_pos c2] at hr
      subst hr
      have hT := huff_Take_no nl b hb (q * 8 + 16) (by omega) 16 (decide_eq_false (by omega))
      repeat (first | refine wA ?_ | refine wB ?_ | refine wC rfl ?_ | refine wD rfl ?_ | refine wE ?_ | refine wF (by omega) ?_ | ((first | refine wG ?_ | refine wH ?_ | refine wI ?_ | refine wJ ?_ | refine wK ?_ | refine wL ?_); simp (disch := omega) only [wP, wZ, undef, seval, if_pos, if_neg, aStore, frz, AV.flat, ↓reduceIte, ne_eq, reduceCtorEq, ByteArray.size, rdR, unR]))
      refine goC_h [(1001, 0)] 4000 hT (by simp) (by simp) ?_ ?_ ?_
      iterate 2 (case _ => simp (disch := omega) only [wP, wZ, undef, seval, if_pos, if_neg, aStore, frz, AV.flat, ↓reduceIte, ne_eq, reduceCtorEq, ByteArray.size, rdR])
      repeat (first | refine wA ?_ | refine wB ?_ | refine wC rfl ?_ | refine wD rfl ?_ | refine wE ?_ | refine wF (by omega) ?_ | ((first | refine wG ?_ | refine wH ?_ | refine wI ?_ | refine wJ ?_ | refine wK ?_ | refine wL ?_); simp (disch := omega) only [wP, wZ, undef, seval, if_pos, if_neg, aStore, frz, AV.flat, ↓reduceIte, ne_eq, reduceCtorEq, ByteArray.size, ansE, houS]))
    · rw [if_neg c2] at hr
      have hT := huff_Take_h nl b hb (q * 8 + 16) (by omega) 16 (by omega) (by omega)
      have hy1 := numAt_lt (b := b) (i := q * 8 + 16) (n := 16)
      obtain ⟨y, hy⟩ : ∃ y, y = numAt b (q * 8 + 16) 16 := ⟨_, rfl⟩
      rw [← hy] at hT hr hy1
      repeat (first | refine wA ?_ | refine wB ?_ | refine wC rfl ?_ | refine wD rfl ?_ | refine wE ?_ | refine wF (by omega) ?_ | ((first | refine wG ?_ | refine wH ?_ | refine wI ?_ | refine wJ ?_ | refine wK ?_ | refine wL ?_); simp (disch := omega) only [wP, wZ, undef, seval, if_pos, if_neg, aStore, frz, AV.flat, ↓reduceIte, ne_eq, reduceCtorEq, ByteArray.size, rdR, unR]))
      refine goC_h [(1001, 0)] 4000 hT (by simp) (by simp) ?_ ?_ ?_
      iterate 2 (case _ => simp (disch := omega) only [wP, wZ, undef, seval, if_pos, if_neg, aStore, frz, AV.flat, ↓reduceIte, ne_eq, reduceCtorEq, ByteArray.size, rdR])
      by_cases c3 : x + y ≠ 65535
      · rw [if_pos c3] at hr
        subst hr
        have d3 : decide ((x : Int) + (y : Int) = 65535) = false := decide_eq_false (by omega)
        repeat (first | refine wA ?_ | refine wB ?_ | refine wC rfl ?_ | refine wD rfl ?_ | refine wE ?_ | refine wF (by omega) ?_ | ((first | refine wG ?_ | refine wH ?_ | refine wI ?_ | refine wJ ?_ | refine wK ?_ | refine wL ?_); simp (disch := omega) only [wP, wZ, undef, seval, if_pos, if_neg, aStore, frz, AV.flat, ↓reduceIte, ne_eq, reduceCtorEq, ByteArray.size, ansE, houS, d3]))
      · rw [if_neg c3] at hr
        have d3 : decide ((x : Int) + (y : Int) = 65535) = true := decide_eq_true (by omega)
        have ej : q + 4 = (q * 8 + 16 + 16 + 7) / 8 := by omega
        by_cases c4 : b.length < q + 4 + x
        · rw [if_pos c4] at hr
          subst hr
          have hB := huff_Bytes_no nl b hb (q * 8 + 16 + 16) (by omega) (x : Int) (decide_eq_false (by omega))
          repeat (first | refine wA ?_ | refine wB ?_ | refine wC rfl ?_ | refine wD rfl ?_ | refine wE ?_ | refine wF (by omega) ?_ | ((first | refine wG ?_ | refine wH ?_ | refine wI ?_ | refine wJ ?_ | refine wK ?_ | refine wL ?_); simp (disch := omega) only [wP, wZ, undef, seval, if_pos, if_neg, aStore, frz, AV.flat, ↓reduceIte, ne_eq, reduceCtorEq, ByteArray.size, d3, rdR, unR]))
          refine goC_h [(1001, 0)] 5000 hB (by simp) (by simp) ?_ ?_ ?_
          iterate 2 (case _ => simp (disch := omega) only [wP, wZ, undef, seval, if_pos, if_neg, aStore, frz, AV.flat, ↓reduceIte, ne_eq, reduceCtorEq, ByteArray.size, rdR])
          repeat (first | refine wA ?_ | refine wB ?_ | refine wC rfl ?_ | refine wD rfl ?_ | refine wE ?_ | refine wF (by omega) ?_ | ((first | refine wG ?_ | refine wH ?_ | refine wI ?_ | refine wJ ?_ | refine wK ?_ | refine wL ?_); simp (disch := omega) only [wP, wZ, undef, seval, if_pos, if_neg, aStore, frz, AV.flat, ↓reduceIte, ne_eq, reduceCtorEq, ByteArray.size, ansE, houS]))
        · rw [if_neg c4] at hr
          have hB := huff_Bytes_h nl b hb hnl (q * 8 + 16 + 16) (by omega) (q + 4) ej x (by omega)
          have hlen : ((b.drop (q + 4)).take x).length = x := by rw [List.length_take, List.length_drop]; omega
          obtain ⟨z, hz⟩ : ∃ z, z = (b.drop (q + 4)).take x := ⟨_, rfl⟩
          rw [← hz] at hB hr hlen
          have hRo := inf_room_h t most hm nl b (8 * (q + 4 + x)) out ho
          repeat (first | refine wA ?_ | refine wB ?_ | refine wC rfl ?_ | refine wD rfl ?_ | refine wE ?_ | refine wF (by omega) ?_ | ((first | refine wG ?_ | refine wH ?_ | refine wI ?_ | refine wJ ?_ | refine wK ?_ | refine wL ?_); simp (disch := omega) only [wP, wZ, undef, seval, if_pos, if_neg, aStore, frz, AV.flat, ↓reduceIte, ne_eq, reduceCtorEq, ByteArray.size, d3, rdR, unR]))
          refine goC_h [(1001, 0)] 5000 hB (by simp) (by simp) ?_ ?_ ?_
          iterate 2 (case _ => simp (disch := omega) only [wP, wZ, undef, seval, if_pos, if_neg, aStore, frz, AV.flat, ↓reduceIte, ne_eq, reduceCtorEq, ByteArray.size, rdR])
          repeat (first | refine wA ?_ | refine wB ?_ | refine wC rfl ?_ | refine wD rfl ?_ | refine wE ?_ | refine wF (by omega) ?_ | ((first | refine wG ?_ | refine wH ?_ | refine wI ?_ | refine wJ ?_ | refine wK ?_ | refine wL ?_); simp (disch := omega) only [wP, wZ, undef, seval, if_pos, if_neg, aStore, frz, AV.flat, ↓reduceIte, ne_eq, reduceCtorEq, ByteArray.size, rdR, unR]))
          refine goC_h [(1000, 0), (1001, 0), (1002, 0)] 6000 hRo (by simp) (by simp) ?_ ?_ ?_
          iterate 2 (case _ => simp (disch := omega) only [wP, wZ, undef, seval, if_pos, if_neg, aStore, frz, AV.flat, ↓reduceIte, ne_eq, reduceCtorEq, ByteArray.size, unI, unR, rdR, ren_fxA])
          by_cases c5 : most < out.length + x
          · rw [if_pos c5] at hr
            subst hr
            have d5 : decide (((most - out.length : Nat) : Int) < (x : Int)) = true := decide_eq_true (by omega)
            repeat (first | refine wA ?_ | refine wB ?_ | refine wC rfl ?_ | refine wD rfl ?_ | refine wE ?_ | refine wF (by omega) ?_ | ((first | refine wG ?_ | refine wH ?_ | refine wI ?_ | refine wJ ?_ | refine wK ?_ | refine wL ?_); simp (disch := omega) only [wP, wZ, undef, seval, if_pos, if_neg, aStore, frz, AV.flat, ↓reduceIte, ne_eq, reduceCtorEq, ByteArray.size, ansE, houS, d5]))
          · rw [if_neg c5] at hr
            subst hr
            have d5 : decide (((most - out.length : Nat) : Int) < (x : Int)) = false := decide_eq_false (by omega)
            have hn0 : nl0 (out.length + x) = (nl0 out.length && (z.map u8).isEmpty) := by
              cases out with
              | nil => cases z with
                       | nil => simp at hlen; subst hlen; rfl
                       | cons a z => simp at hlen; rw [← hlen]; rfl
              | cons a out => simp only [List.length_cons]; rw [nl0_pos (by omega), nl0_pos (by omega)]; rfl
            repeat (first | refine wA ?_ | refine wB ?_ | refine wC rfl ?_ | refine wD rfl ?_ | refine wE ?_ | refine wF (by omega) ?_ | ((first | refine wG ?_ | refine wH ?_ | refine wI ?_ | refine wJ ?_ | refine wK ?_ | refine wL ?_); simp (disch := omega) only [wP, wZ, undef, seval, if_pos, if_neg, aStore, frz, AV.flat, ↓reduceIte, ne_eq, reduceCtorEq, ByteArray.size, ansE, houS, d5, unO, unR, rdR, ren_fxA, cells_fxA, hlen, hn0]))
end Go.Proofs.YtbcncdpaigljeaaGreatDoor.Aw
namespace Go.Proofs.YtbcncdpaigljeaaGreatDoor.Aw
open Go
set_option linter.unusedSimpArgs false
set_option linter.unusedVariables false
set_option maxRecDepth 100000 in
theorem slices_GrowI [Tabs Tryz.prog] (n : Nat) (h0 : 0 < n) (hn : n ≤ 1000000) : HCon Tryz.prog n_slices_Growintint [.sc (.slice none 0 0), int n] [] (.own 22 1 none 0 0) [(22, 1, .row false [])] 2 := by
  refine HCon.of' mix Tryz.func125 rfl Tryz.ntmps125 e_slices_Growintint r_slices_Growintint (by simp) (by simp [AV.gl, AV.gl.glL, int]) (by simp) ?_
  unfold s_slices_Growintint
  have d1 : decide ((n : Int) < 0) = false := decide_eq_false (by omega)
  have d2 : decide ((n : Int) > 0) = true := decide_eq_true (by omega)
  have d3 : (n == 0) = false := by simp; omega
  iterate 16 (first | refine wA ?_ | refine wB ?_ | refine wC rfl ?_ | refine wD rfl ?_ | refine wE ?_ | refine wF (by omega) ?_ | ((first | refine wG ?_ | refine wH ?_ | refine wI ?_ | refine wJ ?_ | refine wK ?_ | refine wL ?_); simp (disch := omega) only [wP, wZ, undef, seval, if_pos, if_neg, aStore, frz, AV.flat, ↓reduceIte, ne_eq, reduceCtorEq, ByteArray.size, d1, d2, d3]))
  refine SWp.cut 22 0 (g := 1) (nl := false) (cells := (List.replicate n [AV.sc (.int .i64 0)]).flatten) (by simp (disch := omega) only [wP, wZ, undef, seval, if_pos, if_neg, aStore, frz, AV.flat, ↓reduceIte, ne_eq, reduceCtorEq, ByteArray.size]) ?_
  repeat (first | refine wA ?_ | refine wB ?_ | refine wC rfl ?_ | refine wD rfl ?_ | refine wE ?_ | refine wF (by omega) ?_ | ((first | refine wG ?_ | refine wH ?_ | refine wI ?_ | refine wJ ?_ | refine wK ?_ | refine wL ?_); simp (disch := omega) only [wP, wZ, undef, seval, if_pos, if_neg, aStore, frz, AV.flat, ↓reduceIte, ne_eq, reduceCtorEq, ByteArray.size]))
end Go.Proofs.YtbcncdpaigljeaaGreatDoor.Aw
namespace Go.Proofs.YtbcncdpaigljeaaGreatDoor.Aw
open Go
set_option linter.unusedSimpArgs false
set_option linter.unusedVariables false
end Go.Proofs.YtbcncdpaigljeaaGreatDoor.Aw
namespace Go.Proofs.YtbcncdpaigljeaaGreatDoor.Aw
open Go
set_option linter.unusedSimpArgs false
set_option linter.unusedVariables false
def u64 (n : Nat) : AV := .sc (.int .u64 (n : Int))
theorem bits_Mul64_c [Tabs Tryz.prog] (k : Nat) (hk : k < 1000000) : Con Tryz.prog n_bits_Mul64 [.sc (.int .u64 1), .sc (.int .u64 (k : Int))] (.tup [.sc (.int .u64 0), .sc (.int .u64 (k : Int))]) := by
  refine Con.of' mix Tryz.func148 rfl Tryz.ntmps148 e_bits_Mul64 r_bits_Mul64 (by simp) rfl rfl ?_
  unfold s_bits_Mul64
  have h1 : k &&& 4294967295 = k := by
    have := Nat.and_two_pow_sub_one_eq_mod k 32
    simp only [Nat.reducePow, Nat.reduceSub] at this
    rw [this, Nat.mod_eq_of_lt (by omega)]
  have h2 : k / 4294967296 = 0 := Nat.div_eq_of_lt (by omega)
  repeat (first | refine wA ?_ | refine wB ?_ | refine wC rfl ?_ | refine wD rfl ?_ | refine wE ?_ | refine wF (by omega) ?_ | ((first | refine wG ?_ | refine wH ?_ | refine wI ?_ | refine wJ ?_ | refine wK ?_ | refine wL ?_); simp (disch := omega) only [wP, wZ, undef, UInt8.reduceToNat, Nat.reduceOr, Nat.reduceAnd, Nat.reduceXor, Nat.reduceDiv, if_pos, if_neg, aStore, frz, AV.flat, ↓reduceIte, ne_eq, reduceCtorEq, Int.reduceToNat, Nat.reduceEqDiff, Nat.reduceAdd, Nat.reduceSub, Nat.reduceMul, Int.reduceAdd, Int.reduceMul, Int.reduceSub, Int.reduceLT, Int.reduceLE, Int.reduceEq, Int.reduceNe, Nat.reduceLeDiff, Nat.reduceLT, Int.reduceNeg, Nat.reducePow, Nat.reduceMod, ByteArray.size, h1, h2, wrap_u64_id3, Int.one_mul, Int.zero_mul]))
theorem bits_Mul_c [Tabs Tryz.prog] (k : Nat) (hk : k < 1000000) : Con Tryz.prog n_bits_Mul [.sc (.int .u64 1), .sc (.int .u64 (k : Int))] (.tup [.sc (.int .u64 0), .sc (.int .u64 (k : Int))]) := by
  refine Con.of' mix Tryz.func126 rfl Tryz.ntmps126 e_bits_Mul r_bits_Mul (by simp) rfl rfl ?_
  unfold s_bits_Mul
  repeat (first | refine wA ?_ | refine wB ?_ | refine wC rfl ?_ | refine wD rfl ?_ | refine wE ?_ | refine wF (by omega) ?_ | ((first | refine wG ?_ | refine wH ?_ | refine wI ?_ | refine wJ ?_ | refine wK ?_ | refine wL ?_); simp (disch := omega) only [wP, wZ, undef, UInt8.reduceToNat, Nat.reduceOr, Nat.reduceAnd, Nat.reduceXor, Nat.reduceDiv, if_pos, if_neg, aStore, frz, AV.flat, ↓reduceIte, ne_eq, reduceCtorEq, Int.reduceToNat, Nat.reduceEqDiff, Nat.reduceAdd, Nat.reduceSub, Nat.reduceMul, Int.reduceAdd, Int.reduceMul, Int.reduceSub, Int.reduceLT, Int.reduceLE, Int.reduceEq, Int.reduceNe, Nat.reduceLeDiff, Nat.reduceLT, Int.reduceNeg, Nat.reducePow, Nat.reduceMod, ByteArray.size]))
  refine goC_p _ (.inl ⟨rfl, bits_Mul64_c k hk⟩) ?_
  repeat (first | refine wA ?_ | refine wB ?_ | refine wC rfl ?_ | refine wD rfl ?_ | refine wE ?_ | refine wF (by omega) ?_ | ((first | refine wG ?_ | refine wH ?_ | refine wI ?_ | refine wJ ?_ | refine wK ?_ | refine wL ?_); simp (disch := omega) only [wP, wZ, undef, UInt8.reduceToNat, Nat.reduceOr, Nat.reduceAnd, Nat.reduceXor, Nat.reduceDiv, if_pos, if_neg, aStore, frz, AV.flat, ↓reduceIte, ne_eq, reduceCtorEq, Int.reduceToNat, Nat.reduceEqDiff, Nat.reduceAdd, Nat.reduceSub, Nat.reduceMul, Int.reduceAdd, Int.reduceMul, Int.reduceSub, Int.reduceLT, Int.reduceLE, Int.reduceEq, Int.reduceNe, Nat.reduceLeDiff, Nat.reduceLT, Int.reduceNeg, Nat.reducePow, Nat.reduceMod, ByteArray.size]))
def rep0 (x n k : Nat) : List Nat := List.replicate n x ++ List.replicate (k - n) 0
theorem length_rep0 {x n k : Nat} (h : n ≤ k) : (rep0 x n k).length = k := by simp [rep0]; omega
theorem rep0_all {x k : Nat} : rep0 x k k = List.replicate k x := by simp [rep0]
theorem rep0_zero {x k : Nat} : rep0 x 0 k = List.replicate k 0 := by simp [rep0]
theorem rep0_take {x n k m : Nat} (h : m ≤ n) : (rep0 x n k).take m = List.replicate m x := by
  rw [rep0, List.take_append_of_le_length (by simp; exact h), List.take_replicate, Nat.min_eq_left h]
theorem splice_rep0 {x n m k : Nat} (h : n + m ≤ k) : splice n ((List.replicate m x).map nA) ((rep0 x n k).map nA) = (rep0 x (n + m) k).map nA := by
  unfold splice
  rw [← List.map_take, ← List.map_drop, ← List.map_append, ← List.map_append]
  congr 1
  simp only [rep0, List.length_map, List.length_replicate]
  rw [List.take_append_of_le_length (by simp), List.take_replicate, Nat.min_self, List.drop_append, List.drop_of_length_le (by simp), List.nil_append, List.length_replicate, List.drop_replicate, List.replicate_append_replicate]
  congr 2
  omega
set_option maxRecDepth 100000 in
theorem slices_Repeat_c [Tabs Tryz.prog] (x k : Nat) (h0 : 0 < k) (hk : k ≤ 100000) : Con Tryz.prog n_slices_Repeatintint [.sl false none [.sc (.int .i64 (x : Int))], int (k : Int)] (.sl false none ((List.replicate k x).map nA)) := by
  refine Con.of' mix Tryz.func88 rfl Tryz.ntmps88 e_slices_Repeatintint r_slices_Repeatintint (by simp) rfl (by simp only [AV.free, free_nA]) ?_
  unfold s_slices_Repeatintint
  have d1 : decide ((k : Int) < 0) = false := decide_eq_false (by omega)
  have d2 : decide ((9223372036854775807 : Int) < (k : Int)) = false := decide_eq_false (by omega)
  repeat (first | refine wA ?_ | refine wB ?_ | refine wC rfl ?_ | refine wD rfl ?_ | refine wE ?_ | refine wF (by omega) ?_ | ((first | refine wG ?_ | refine wH ?_ | refine wI ?_ | refine wJ ?_ | refine wK ?_ | refine wL ?_); simp (disch := omega) only [wP, wZ, undef, UInt8.reduceToNat, Nat.reduceOr, Nat.reduceAnd, Nat.reduceXor, Nat.reduceDiv, if_pos, if_neg, aStore, frz, AV.flat, ↓reduceIte, ne_eq, reduceCtorEq, Int.reduceToNat, Nat.reduceEqDiff, Nat.reduceAdd, Nat.reduceSub, Nat.reduceMul, Int.reduceAdd, Int.reduceMul, Int.reduceSub, Int.reduceLT, Int.reduceLE, Int.reduceEq, Int.reduceNe, Nat.reduceLeDiff, Nat.reduceLT, Int.reduceNeg, Nat.reducePow, Nat.reduceMod, ByteArray.size, d1, d2, wrap_u64_id3]))
  refine goC_p _ (.inl ⟨rfl, bits_Mul_c k (by omega)⟩) ?_
  have hz : (List.replicate k [AV.sc (.int .i64 0)]).flatten = (rep0 x 0 k).map nA := by rw [zerosN, rep0_zero]
  have hl := length_rep0 (x := x) (n := 0) (k := k) (by omega)
  have hs : (List.replicate 1 x).map nA ++ List.drop 1 ((rep0 x 0 k).map nA) = (rep0 x 1 k).map nA := by have := splice_rep0 (x := x) (n := 0) (m := 1) (k := k) (by omega); rwa [splice, List.take_zero, List.nil_append, List.length_map, List.length_replicate, Nat.zero_add] at this
  have h1 : ([AV.sc (.int .i64 (x : Int))]).take k = (List.replicate 1 x).map nA := by
    obtain ⟨k, rfl⟩ : ∃ j, k = j + 1 := ⟨k - 1, by omega⟩
    simp [nA]
  repeat (first | refine wA ?_ | refine wB ?_ | refine wC rfl ?_ | refine wD rfl ?_ | refine wE ?_ | refine wF (by omega) ?_ | ((first | refine wG ?_ | refine wH ?_ | refine wI ?_ | refine wJ ?_ | refine wK ?_ | refine wL ?_); simp (disch := omega) only [wP, wZ, undef, UInt8.reduceToNat, Nat.reduceOr, Nat.reduceAnd, Nat.reduceXor, Nat.reduceDiv, if_pos, if_neg, aStore, frz, AV.flat, ↓reduceIte, ne_eq, reduceCtorEq, Int.reduceToNat, Nat.reduceEqDiff, Nat.reduceAdd, Nat.reduceSub, Nat.reduceMul, Int.reduceAdd, Int.reduceMul, Int.reduceSub, Int.reduceLT, Int.reduceLE, Int.reduceEq, Int.reduceNe, Nat.reduceLeDiff, Nat.reduceLT, Int.reduceNeg, Nat.reducePow, Nat.reduceMod, ByteArray.size, d1, d2, wrap_u64_id3, hz, hl, h1, List.length_replicate, hs]))
  refine SWp.loop (α := Nat) (fun n => mk 48 1 [(7, .own 30 0 none 0 k), (8, int (n : Int))] [(30, 0, .row false ((rep0 x n k).map nA))])
    (fun n => 1 ≤ n ∧ n ≤ k) (fun n => k - n) 1 ⟨by omega, by omega⟩ (le_mk rfl ?_ ?_ ?_) ?_
  · exact Nat.le_refl _
  iterate 2 (case _ => simp (disch := omega) only [wP, wZ, undef, UInt8.reduceToNat, Nat.reduceOr, Nat.reduceAnd, Nat.reduceXor, Nat.reduceDiv, if_pos, if_neg, aStore, frz, AV.flat, ↓reduceIte, ne_eq, reduceCtorEq, Int.reduceToNat, Nat.reduceEqDiff, Nat.reduceAdd, Nat.reduceSub, Nat.reduceMul, Int.reduceAdd, Int.reduceMul, Int.reduceSub, Int.reduceLT, Int.reduceLE, Int.reduceEq, Int.reduceNe, Nat.reduceLeDiff, Nat.reduceLT, Int.reduceNeg, Nat.reducePow, Nat.reduceMod, ByteArray.size])
  rintro n ⟨hn1, hn⟩ -
  have hl := length_rep0 (x := x) (n := n) (k := k) hn
  obtain ⟨m, hm⟩ : ∃ m, m = min n (k - n) := ⟨_, rfl⟩
  have hmn : n + m ≤ k := by omega
  have hs := splice_rep0 (x := x) (n := n) (m := m) (k := k) hmn
  rw [splice, List.length_map, List.length_replicate, List.append_assoc, take_nA, drop_nA] at hs
  obtain ⟨R, hR⟩ : ∃ R, R = rep0 x n k := ⟨_, rfl⟩
  obtain ⟨Y, hY⟩ : ∃ Y, Y = List.replicate m x := ⟨_, rfl⟩
  have hYl : Y.length = m := by rw [hY, List.length_replicate]
  have ht : ((rep0 x n k).take n).take (k - n) = List.replicate m x := by
    rw [List.take_take, Nat.min_comm, ← hm, rep0_take (by omega)]
  rw [← hR] at hs ht hl ⊢
  rw [← hY] at hs ht
  have hn3 : min (R.take n).length (k - n) = m := by rw [List.length_take, hl]; omega
  repeat (first | refine wA ?_ | refine wB ?_ | refine wC rfl ?_ | refine wD rfl ?_ | refine wE ?_ | refine wF (by omega) ?_ | ((first | refine wG ?_ | refine wH ?_ | refine wI ?_ | refine wJ ?_ | refine wK ?_ | refine wL ?_); simp (disch := omega) only [wP, wZ, undef, UInt8.reduceToNat, Nat.reduceOr, Nat.reduceAnd, Nat.reduceXor, Nat.reduceDiv, if_pos, if_neg, aStore, frz, AV.flat, ↓reduceIte, ne_eq, reduceCtorEq, Int.reduceToNat, Nat.reduceEqDiff, Nat.reduceAdd, Nat.reduceSub, Nat.reduceMul, Int.reduceAdd, Int.reduceMul, Int.reduceSub, Int.reduceLT, Int.reduceLE, Int.reduceEq, Int.reduceNe, Nat.reduceLeDiff, Nat.reduceLT, Int.reduceNeg, Nat.reducePow, Nat.reduceMod, ByteArray.size]))
  refine SWp.cond rfl (fun h => ?_) (fun h => ?_)
  · simp only [decide_eq_true_eq] at h
    repeat (first | refine wA ?_ | refine wB ?_ | refine wC rfl ?_ | refine wD rfl ?_ | refine wE ?_ | refine wF (by omega) ?_ | ((first | refine wG ?_ | refine wH ?_ | refine wI ?_ | refine wJ ?_ | refine wK ?_ | refine wL ?_); simp (disch := omega) only [wP, wZ, undef, UInt8.reduceToNat, Nat.reduceOr, Nat.reduceAnd, Nat.reduceXor, Nat.reduceDiv, if_pos, if_neg, aStore, frz, AV.flat, ↓reduceIte, ne_eq, reduceCtorEq, Int.reduceToNat, Nat.reduceEqDiff, Nat.reduceAdd, Nat.reduceSub, Nat.reduceMul, Int.reduceAdd, Int.reduceMul, Int.reduceSub, Int.reduceLT, Int.reduceLE, Int.reduceEq, Int.reduceNe, Nat.reduceLeDiff, Nat.reduceLT, Int.reduceNeg, Nat.reducePow, Nat.reduceMod, ByteArray.size, hl, take_nA, drop_nA, ht, hYl, ← hm]))
    refine At.of (n + m) (by omega) (by omega) rfl rfl (Nat.le_refl _) ?_ ?_
    iterate 2 (case _ => simp (disch := omega) only [wP, wZ, undef, UInt8.reduceToNat, Nat.reduceOr, Nat.reduceAnd, Nat.reduceXor, Nat.reduceDiv, if_pos, if_neg, aStore, frz, AV.flat, ↓reduceIte, ne_eq, reduceCtorEq, Int.reduceToNat, Nat.reduceEqDiff, Nat.reduceAdd, Nat.reduceSub, Nat.reduceMul, Int.reduceAdd, Int.reduceMul, Int.reduceSub, Int.reduceLT, Int.reduceLE, Int.reduceEq, Int.reduceNe, Nat.reduceLeDiff, Nat.reduceLT, Int.reduceNeg, Nat.reducePow, Nat.reduceMod, ByteArray.size, hn3, ← hm, hs])
  · simp only [decide_eq_false_iff_not] at h
    obtain rfl : n = k := by omega
    repeat (first | refine wA ?_ | refine wB ?_ | refine wC rfl ?_ | refine wD rfl ?_ | refine wE ?_ | refine wF (by omega) ?_ | ((first | refine wG ?_ | refine wH ?_ | refine wI ?_ | refine wJ ?_ | refine wK ?_ | refine wL ?_); simp (disch := omega) only [wP, wZ, undef, UInt8.reduceToNat, Nat.reduceOr, Nat.reduceAnd, Nat.reduceXor, Nat.reduceDiv, if_pos, if_neg, aStore, frz, AV.flat, ↓reduceIte, ne_eq, reduceCtorEq, Int.reduceToNat, Nat.reduceEqDiff, Nat.reduceAdd, Nat.reduceSub, Nat.reduceMul, Int.reduceAdd, Int.reduceMul, Int.reduceSub, Int.reduceLT, Int.reduceLE, Int.reduceEq, Int.reduceNe, Nat.reduceLeDiff, Nat.reduceLT, Int.reduceNeg, Nat.reducePow, Nat.reduceMod, ByteArray.size, free_nA]))
    rw [hR, List.take_of_length_le (by rw [List.length_map, length_rep0 (Nat.le_refl _)]; exact Nat.le_refl _), rep0_all]
theorem slices_ConcatI4 [Tabs Tryz.prog] (A B C D : List Nat) (hA : 0 < A.length) (hl : A.length ≤ 1000 ∧ B.length ≤ 1000 ∧ C.length ≤ 1000 ∧ D.length ≤ 1000) :
    Con Tryz.prog n_slices_Concatintint [.sl false none [.sl false none (A.map nA), .sl false none (B.map nA), .sl false none (C.map nA), .sl false none (D.map nA)]] (.sl false none ((A ++ (B ++ (C ++ D))).map nA)) := by
  refine Con.of' mix Tryz.func87 rfl Tryz.ntmps87 e_slices_Concatintint r_slices_Concatintint (by simp) (by simp only [AV.free, AV.free.freeL, free_nA, Bool.and_self]) (by simp only [AV.free, free_nA]) ?_
  unfold s_slices_Concatintint
  obtain ⟨n, hn⟩ : ∃ n, n = A.length + B.length + C.length + D.length := ⟨_, rfl⟩
  have hc : (A.length : Int) + (B.length : Int) + (C.length : Int) + (D.length : Int) = (n : Int) := by omega
  have d1 : decide ((A.length : Int) < 0) = false := decide_eq_false (by omega)
  have d2 : decide ((A.length : Int) + (B.length : Int) < 0) = false := decide_eq_false (by omega)
  have d3 : decide ((A.length : Int) + (B.length : Int) + (C.length : Int) < 0) = false := decide_eq_false (by omega)
  have d4 : decide ((n : Int) < 0) = false := decide_eq_false (by omega)
  repeat (first | refine wA ?_ | refine wB ?_ | refine wC rfl ?_ | refine wD rfl ?_ | refine wE ?_ | refine wF (by omega) ?_ | ((first | refine wG ?_ | refine wH ?_ | refine wI ?_ | refine wJ ?_ | refine wK ?_ | refine wL ?_); simp (disch := omega) only [wP, wZ, undef, UInt8.reduceToNat, Nat.reduceOr, Nat.reduceAnd, Nat.reduceXor, Nat.reduceDiv, if_pos, if_neg, aStore, frz, AV.flat, ↓reduceIte, ne_eq, reduceCtorEq, Int.reduceToNat, Nat.reduceEqDiff, Nat.reduceAdd, Nat.reduceSub, Nat.reduceMul, Int.reduceAdd, Int.reduceMul, Int.reduceSub, Int.reduceLT, Int.reduceLE, Int.reduceEq, Int.reduceNe, Nat.reduceLeDiff, Nat.reduceLT, Int.reduceNeg, Nat.reducePow, Nat.reduceMod, ByteArray.size, d1, d2, d3, d4, hc]))
  refine SWp.unroll ?_
  repeat (first | refine wA ?_ | refine wB ?_ | refine wC rfl ?_ | refine wD rfl ?_ | refine wE ?_ | refine wF (by omega) ?_ | ((first | refine wG ?_ | refine wH ?_ | refine wI ?_ | refine wJ ?_ | refine wK ?_ | refine wL ?_); simp (disch := omega) only [wP, wZ, undef, UInt8.reduceToNat, Nat.reduceOr, Nat.reduceAnd, Nat.reduceXor, Nat.reduceDiv, if_pos, if_neg, aStore, frz, AV.flat, ↓reduceIte, ne_eq, reduceCtorEq, Int.reduceToNat, Nat.reduceEqDiff, Nat.reduceAdd, Nat.reduceSub, Nat.reduceMul, Int.reduceAdd, Int.reduceMul, Int.reduceSub, Int.reduceLT, Int.reduceLE, Int.reduceEq, Int.reduceNe, Nat.reduceLeDiff, Nat.reduceLT, Int.reduceNeg, Nat.reducePow, Nat.reduceMod, ByteArray.size, d1, d2, d3, d4, hc]))
  refine goC_h [] 1000 (slices_GrowI n (by omega) (by omega)) (by simp) (by simp) ?_ ?_ ?_
  iterate 2 (case _ => simp (disch := omega) only [wP, wZ, undef, UInt8.reduceToNat, Nat.reduceOr, Nat.reduceAnd, Nat.reduceXor, Nat.reduceDiv, if_pos, if_neg, aStore, frz, AV.flat, ↓reduceIte, ne_eq, reduceCtorEq, Int.reduceToNat, Nat.reduceEqDiff, Nat.reduceAdd, Nat.reduceSub, Nat.reduceMul, Int.reduceAdd, Int.reduceMul, Int.reduceSub, Int.reduceLT, Int.reduceLE, Int.reduceEq, Int.reduceNe, Nat.reduceLeDiff, Nat.reduceLT, Int.reduceNeg, Nat.reducePow, Nat.reduceMod, ByteArray.size])
  repeat (first | refine wA ?_ | refine wB ?_ | refine wC rfl ?_ | refine wD rfl ?_ | refine wE ?_ | refine wF (by omega) ?_ | ((first | refine wG ?_ | refine wH ?_ | refine wI ?_ | refine wJ ?_ | refine wK ?_ | refine wL ?_); simp (disch := omega) only [wP, wZ, undef, UInt8.reduceToNat, Nat.reduceOr, Nat.reduceAnd, Nat.reduceXor, Nat.reduceDiv, if_pos, if_neg, aStore, frz, AV.flat, ↓reduceIte, ne_eq, reduceCtorEq, Int.reduceToNat, Nat.reduceEqDiff, Nat.reduceAdd, Nat.reduceSub, Nat.reduceMul, Int.reduceAdd, Int.reduceMul, Int.reduceSub, Int.reduceLT, Int.reduceLE, Int.reduceEq, Int.reduceNe, Nat.reduceLeDiff, Nat.reduceLT, Int.reduceNeg, Nat.reducePow, Nat.reduceMod, ByteArray.size]))
  refine SWp.unroll ?_
  repeat (first | refine wA ?_ | refine wB ?_ | refine wC rfl ?_ | refine wD rfl ?_ | refine wE ?_ | refine wF (by omega) ?_ | ((first | refine wG ?_ | refine wH ?_ | refine wI ?_ | refine wJ ?_ | refine wK ?_ | refine wL ?_); simp (disch := omega) only [wP, wZ, undef, UInt8.reduceToNat, Nat.reduceOr, Nat.reduceAnd, Nat.reduceXor, Nat.reduceDiv, if_pos, if_neg, aStore, frz, AV.flat, ↓reduceIte, ne_eq, reduceCtorEq, Int.reduceToNat, Nat.reduceEqDiff, Nat.reduceAdd, Nat.reduceSub, Nat.reduceMul, Int.reduceAdd, Int.reduceMul, Int.reduceSub, Int.reduceLT, Int.reduceLE, Int.reduceEq, Int.reduceNe, Nat.reduceLeDiff, Nat.reduceLT, Int.reduceNeg, Nat.reducePow, Nat.reduceMod, ByteArray.size, List.length_append, free_nA]))
  exact List.take_of_length_le (by simp; omega)
theorem nA_zA {l : List Nat} : l.map nA = (l.map Int.ofNat).map int := by rw [List.map_map]; rfl
theorem toNat_ofNat {l : List Nat} : (l.map Int.ofNat).map Int.toNat = l := by
  rw [List.map_map]
  conv => rhs; rw [← List.map_id l]
  exact List.map_congr_left fun _ _ => rfl
theorem chkN {l : List Nat} (h15 : ∀ x ∈ l, x ≤ 15) (hl : l.length ≤ 320) : chk (l.map Int.ofNat) = if 32768 < kraft l then 3 else 0 := by
  unfold chk
  rw [toNat_ofNat, List.length_map, if_neg (by omega), if_neg]
  rw [Bool.not_eq_false, List.all_eq_true]
  intro x hx
  obtain ⟨y, hy, rfl⟩ := List.mem_map.1 hx
  have := h15 y hy
  exact decide_eq_true (by show 0 ≤ (y : Int) ∧ (y : Int) ≤ 15; omega)
end Go.Proofs.YtbcncdpaigljeaaGreatDoor.Aw
namespace Go.Proofs.YtbcncdpaigljeaaGreatDoor.Aw
open Go
set_option linter.unusedSimpArgs false
set_option linter.unusedVariables false
theorem huff_NewTree_n [Tabs Tryz.prog] (nl : Bool) (l : List Nat) (h15 : ∀ x ∈ l, x ≤ 15) (hl : l.length ≤ 320) (hK : kraft l ≤ 32768) : Con Tryz.prog n_huff_NewTree [.sl nl none (l.map nA)] (.tup [.fp (.agg (trR l)) 0, int 0]) := by
  have h := huff_NewTree_c nl (l.map Int.ofNat) (by rw [chkN h15 hl, if_neg (by omega)]) l toNat_ofNat.symm
  rw [← nA_zA] at h
  exact h
theorem huff_Full_n [Tabs Tryz.prog] (nl : Bool) (l : List Nat) (h15 : ∀ x ∈ l, x ≤ 15) (hl : l.length ≤ 1000) : Con Tryz.prog n_huff_Full [.sl nl none (l.map nA)] (boo (fulN l)) := by
  have h := huff_Full_c nl (l.map Int.ofNat) (by rw [List.length_map]; exact hl)
  rw [← nA_zA] at h
  have e : fullB (l.map Int.ofNat) = fulN l := by
    unfold fullB fulN
    rw [toNat_ofNat]
    by_cases c : l.length ≤ 320
    · rw [chkN h15 c]
      by_cases c2 : kraft l = 32768
      · rw [if_neg (by omega), decide_eq_true c2, decide_eq_true (show l.length ≤ 320 ∧ kraft l = 32768 from ⟨c, c2⟩)]; rfl
      · rw [decide_eq_false c2, Bool.and_false, decide_eq_false (fun h => c2 h.2)]
    · rw [decide_eq_false (fun h : l.length ≤ 320 ∧ _ => c h.1), decide_eq_false, Bool.false_and]
      unfold chk
      rw [List.length_map, if_pos (by omega)]
      omega
  rw [e] at h
  exact h
theorem fixL_facts : (∀ x ∈ fixL, x ≤ 15) ∧ fixL.length = 288 ∧ kraft fixL = 32768 := by decide +kernel
theorem fixD_facts : (∀ x ∈ fixD, x ≤ 15) ∧ fixD.length = 32 ∧ kraft fixD = 32768 := by decide +kernel
set_option maxRecDepth 100000 in
theorem inf_fixedCodes_c [Tabs Tryz.prog] : Con Tryz.prog n_inflate_fixedCodes [] (cds fixL fixD) := by
  refine Con.of' mix Tryz.func57 rfl Tryz.ntmps57 e_inflate_fixedCodes r_inflate_fixedCodes (by simp) rfl free_cds ?_
  unfold s_inflate_fixedCodes
  have p1 := slices_Repeat_c 8 144 (by omega) (by omega)
  have p2 := slices_Repeat_c 9 112 (by omega) (by omega)
  have p3 := slices_Repeat_c 7 24 (by omega) (by omega)
  have p4 := slices_Repeat_c 8 8 (by omega) (by omega)
  have p5 := slices_Repeat_c 5 32 (by omega) (by omega)
  have pc := slices_ConcatI4 (List.replicate 144 8) (List.replicate 112 9) (List.replicate 24 7) (List.replicate 8 8) (by simp) (by simp)
  have t1 := huff_NewTree_n false fixL fixL_facts.1 (by rw [fixL_facts.2.1]; omega) (by rw [fixL_facts.2.2]; omega)
  have t2 := huff_NewTree_n false fixD fixD_facts.1 (by rw [fixD_facts.2.1]; omega) (by rw [fixD_facts.2.2]; omega)
  have hL : List.replicate 144 8 ++ (List.replicate 112 9 ++ (List.replicate 24 7 ++ List.replicate 8 8)) = fixL := rfl
  have hD : List.replicate 32 5 = fixD := rfl
  rw [hL] at pc
  rw [hD] at p5
  obtain ⟨A, hA⟩ : ∃ A, A = List.replicate 144 8 := ⟨_, rfl⟩
  obtain ⟨B, hB⟩ : ∃ B, B = List.replicate 112 9 := ⟨_, rfl⟩
  obtain ⟨C, hC⟩ : ∃ C, C = List.replicate 24 7 := ⟨_, rfl⟩
  obtain ⟨D, hDd⟩ : ∃ D, D = List.replicate 8 8 := ⟨_, rfl⟩
  rw [← hA] at p1 pc
  rw [← hB] at p2 pc
  rw [← hC] at p3 pc
  rw [← hDd] at p4 pc
  repeat (first | refine wA ?_ | refine wB ?_ | refine wC rfl ?_ | refine wD rfl ?_ | refine wE ?_ | refine wF (by omega) ?_ | ((first | refine wG ?_ | refine wH ?_ | refine wI ?_ | refine wJ ?_ | refine wK ?_ | refine wL ?_); simp (disch := omega) only [wP, wZ, undef, UInt8.reduceToNat, Nat.reduceOr, Nat.reduceAnd, Nat.reduceXor, Nat.reduceDiv, if_pos, if_neg, aStore, frz, AV.flat, ↓reduceIte, ne_eq, reduceCtorEq, Int.reduceToNat, Nat.reduceEqDiff, Nat.reduceAdd, Nat.reduceSub, Nat.reduceMul, Int.reduceAdd, Int.reduceMul, Int.reduceSub, Int.reduceLT, Int.reduceLE, Int.reduceEq, Int.reduceNe, Nat.reduceLeDiff, Nat.reduceLT, Int.reduceNeg, Nat.reducePow, Nat.reduceMod, ByteArray.size, fR, iR]))
  refine goC_f 6 0 (nl := false) (cells := [.sc (.int .i64 8)]) [.sl false none [.sc (.int .i64 ((8 : Nat) : Int))], int ((144 : Nat) : Int)] _ (by simp (disch := omega) only [wP, wZ, undef, UInt8.reduceToNat, Nat.reduceOr, Nat.reduceAnd, Nat.reduceXor, Nat.reduceDiv, if_pos, if_neg, aStore, frz, AV.flat, ↓reduceIte, ne_eq, reduceCtorEq, Int.reduceToNat, Nat.reduceEqDiff, Nat.reduceAdd, Nat.reduceSub, Nat.reduceMul, Int.reduceAdd, Int.reduceMul, Int.reduceSub, Int.reduceLT, Int.reduceLE, Int.reduceEq, Int.reduceNe, Nat.reduceLeDiff, Nat.reduceLT, Int.reduceNeg, Nat.reducePow, Nat.reduceMod, ByteArray.size]) (by simp (disch := omega) only [wP, wZ, undef, UInt8.reduceToNat, Nat.reduceOr, Nat.reduceAnd, Nat.reduceXor, Nat.reduceDiv, if_pos, if_neg, aStore, frz, AV.flat, ↓reduceIte, ne_eq, reduceCtorEq, Int.reduceToNat, Nat.reduceEqDiff, Nat.reduceAdd, Nat.reduceSub, Nat.reduceMul, Int.reduceAdd, Int.reduceMul, Int.reduceSub, Int.reduceLT, Int.reduceLE, Int.reduceEq, Int.reduceNe, Nat.reduceLeDiff, Nat.reduceLT, Int.reduceNeg, Nat.reducePow, Nat.reduceMod, ByteArray.size, free_nA]) ?_ (by simp (disch := omega) only [wP, wZ, undef, UInt8.reduceToNat, Nat.reduceOr, Nat.reduceAnd, Nat.reduceXor, Nat.reduceDiv, if_pos, if_neg, aStore, frz, AV.flat, ↓reduceIte, ne_eq, reduceCtorEq, Int.reduceToNat, Nat.reduceEqDiff, Nat.reduceAdd, Nat.reduceSub, Nat.reduceMul, Int.reduceAdd, Int.reduceMul, Int.reduceSub, Int.reduceLT, Int.reduceLE, Int.reduceEq, Int.reduceNe, Nat.reduceLeDiff, Nat.reduceLT, Int.reduceNeg, Nat.reducePow, Nat.reduceMod, ByteArray.size, free_nA]) p1 ?_
  · simp (disch := omega) only [wP, wZ, undef, UInt8.reduceToNat, Nat.reduceOr, Nat.reduceAnd, Nat.reduceXor, Nat.reduceDiv, if_pos, if_neg, aStore, frz, AV.flat, ↓reduceIte, ne_eq, reduceCtorEq, Int.reduceToNat, Nat.reduceEqDiff, Nat.reduceAdd, Nat.reduceSub, Nat.reduceMul, Int.reduceAdd, Int.reduceMul, Int.reduceSub, Int.reduceLT, Int.reduceLE, Int.reduceEq, Int.reduceNe, Nat.reduceLeDiff, Nat.reduceLT, Int.reduceNeg, Nat.reducePow, Nat.reduceMod, ByteArray.size, fR, iR]
  repeat (first | refine wA ?_ | refine wB ?_ | refine wC rfl ?_ | refine wD rfl ?_ | refine wE ?_ | refine wF (by omega) ?_ | ((first | refine wG ?_ | refine wH ?_ | refine wI ?_ | refine wJ ?_ | refine wK ?_ | refine wL ?_); simp (disch := omega) only [wP, wZ, undef, UInt8.reduceToNat, Nat.reduceOr, Nat.reduceAnd, Nat.reduceXor, Nat.reduceDiv, if_pos, if_neg, aStore, frz, AV.flat, ↓reduceIte, ne_eq, reduceCtorEq, Int.reduceToNat, Nat.reduceEqDiff, Nat.reduceAdd, Nat.reduceSub, Nat.reduceMul, Int.reduceAdd, Int.reduceMul, Int.reduceSub, Int.reduceLT, Int.reduceLE, Int.reduceEq, Int.reduceNe, Nat.reduceLeDiff, Nat.reduceLT, Int.reduceNeg, Nat.reducePow, Nat.reduceMod, ByteArray.size, fR, iR]))
  refine goC_f 8 1 (nl := false) (cells := [.sc (.int .i64 9)]) [.sl false none [.sc (.int .i64 ((9 : Nat) : Int))], int ((112 : Nat) : Int)] _ (by simp (disch := omega) only [wP, wZ, undef, UInt8.reduceToNat, Nat.reduceOr, Nat.reduceAnd, Nat.reduceXor, Nat.reduceDiv, if_pos, if_neg, aStore, frz, AV.flat, ↓reduceIte, ne_eq, reduceCtorEq, Int.reduceToNat, Nat.reduceEqDiff, Nat.reduceAdd, Nat.reduceSub, Nat.reduceMul, Int.reduceAdd, Int.reduceMul, Int.reduceSub, Int.reduceLT, Int.reduceLE, Int.reduceEq, Int.reduceNe, Nat.reduceLeDiff, Nat.reduceLT, Int.reduceNeg, Nat.reducePow, Nat.reduceMod, ByteArray.size]) (by simp (disch := omega) only [wP, wZ, undef, UInt8.reduceToNat, Nat.reduceOr, Nat.reduceAnd, Nat.reduceXor, Nat.reduceDiv, if_pos, if_neg, aStore, frz, AV.flat, ↓reduceIte, ne_eq, reduceCtorEq, Int.reduceToNat, Nat.reduceEqDiff, Nat.reduceAdd, Nat.reduceSub, Nat.reduceMul, Int.reduceAdd, Int.reduceMul, Int.reduceSub, Int.reduceLT, Int.reduceLE, Int.reduceEq, Int.reduceNe, Nat.reduceLeDiff, Nat.reduceLT, Int.reduceNeg, Nat.reducePow, Nat.reduceMod, ByteArray.size, free_nA]) ?_ (by simp (disch := omega) only [wP, wZ, undef, UInt8.reduceToNat, Nat.reduceOr, Nat.reduceAnd, Nat.reduceXor, Nat.reduceDiv, if_pos, if_neg, aStore, frz, AV.flat, ↓reduceIte, ne_eq, reduceCtorEq, Int.reduceToNat, Nat.reduceEqDiff, Nat.reduceAdd, Nat.reduceSub, Nat.reduceMul, Int.reduceAdd, Int.reduceMul, Int.reduceSub, Int.reduceLT, Int.reduceLE, Int.reduceEq, Int.reduceNe, Nat.reduceLeDiff, Nat.reduceLT, Int.reduceNeg, Nat.reducePow, Nat.reduceMod, ByteArray.size, free_nA]) p2 ?_
  · simp (disch := omega) only [wP, wZ, undef, UInt8.reduceToNat, Nat.reduceOr, Nat.reduceAnd, Nat.reduceXor, Nat.reduceDiv, if_pos, if_neg, aStore, frz, AV.flat, ↓reduceIte, ne_eq, reduceCtorEq, Int.reduceToNat, Nat.reduceEqDiff, Nat.reduceAdd, Nat.reduceSub, Nat.reduceMul, Int.reduceAdd, Int.reduceMul, Int.reduceSub, Int.reduceLT, Int.reduceLE, Int.reduceEq, Int.reduceNe, Nat.reduceLeDiff, Nat.reduceLT, Int.reduceNeg, Nat.reducePow, Nat.reduceMod, ByteArray.size, fR, iR]
  repeat (first | refine wA ?_ | refine wB ?_ | refine wC rfl ?_ | refine wD rfl ?_ | refine wE ?_ | refine wF (by omega) ?_ | ((first | refine wG ?_ | refine wH ?_ | refine wI ?_ | refine wJ ?_ | refine wK ?_ | refine wL ?_); simp (disch := omega) only [wP, wZ, undef, UInt8.reduceToNat, Nat.reduceOr, Nat.reduceAnd, Nat.reduceXor, Nat.reduceDiv, if_pos, if_neg, aStore, frz, AV.flat, ↓reduceIte, ne_eq, reduceCtorEq, Int.reduceToNat, Nat.reduceEqDiff, Nat.reduceAdd, Nat.reduceSub, Nat.reduceMul, Int.reduceAdd, Int.reduceMul, Int.reduceSub, Int.reduceLT, Int.reduceLE, Int.reduceEq, Int.reduceNe, Nat.reduceLeDiff, Nat.reduceLT, Int.reduceNeg, Nat.reducePow, Nat.reduceMod, ByteArray.size, fR, iR]))
  refine goC_f 10 2 (nl := false) (cells := [.sc (.int .i64 7)]) [.sl false none [.sc (.int .i64 ((7 : Nat) : Int))], int ((24 : Nat) : Int)] _ (by simp (disch := omega) only [wP, wZ, undef, UInt8.reduceToNat, Nat.reduceOr, Nat.reduceAnd, Nat.reduceXor, Nat.reduceDiv, if_pos, if_neg, aStore, frz, AV.flat, ↓reduceIte, ne_eq, reduceCtorEq, Int.reduceToNat, Nat.reduceEqDiff, Nat.reduceAdd, Nat.reduceSub, Nat.reduceMul, Int.reduceAdd, Int.reduceMul, Int.reduceSub, Int.reduceLT, Int.reduceLE, Int.reduceEq, Int.reduceNe, Nat.reduceLeDiff, Nat.reduceLT, Int.reduceNeg, Nat.reducePow, Nat.reduceMod, ByteArray.size]) (by simp (disch := omega) only [wP, wZ, undef, UInt8.reduceToNat, Nat.reduceOr, Nat.reduceAnd, Nat.reduceXor, Nat.reduceDiv, if_pos, if_neg, aStore, frz, AV.flat, ↓reduceIte, ne_eq, reduceCtorEq, Int.reduceToNat, Nat.reduceEqDiff, Nat.reduceAdd, Nat.reduceSub, Nat.reduceMul, Int.reduceAdd, Int.reduceMul, Int.reduceSub, Int.reduceLT, Int.reduceLE, Int.reduceEq, Int.reduceNe, Nat.reduceLeDiff, Nat.reduceLT, Int.reduceNeg, Nat.reducePow, Nat.reduceMod, ByteArray.size, free_nA]) ?_ (by simp (disch := omega) only [wP, wZ, undef, UInt8.reduceToNat, Nat.reduceOr, Nat.reduceAnd, Nat.reduceXor, Nat.reduceDiv, if_pos, if_neg, aStore, frz, AV.flat, ↓reduceIte, ne_eq, reduceCtorEq, Int.reduceToNat, Nat.reduceEqDiff, Nat.reduceAdd, Nat.reduceSub, Nat.reduceMul, Int.reduceAdd, Int.reduceMul, Int.reduceSub, Int.reduceLT, Int.reduceLE, Int.reduceEq, Int.reduceNe, Nat.reduceLeDiff, Nat.reduceLT, Int.reduceNeg, Nat.reducePow, Nat.reduceMod, ByteArray.size, free_nA]) p3 ?_
  · simp (disch := omega) only [wP, wZ, undef, UInt8.reduceToNat, Nat.reduceOr, Nat.reduceAnd, Nat.reduceXor, Nat.reduceDiv, if_pos, if_neg, aStore, frz, AV.flat, ↓reduceIte, ne_eq, reduceCtorEq, Int.reduceToNat, Nat.reduceEqDiff, Nat.reduceAdd, Nat.reduceSub, Nat.reduceMul, Int.reduceAdd, Int.reduceMul, Int.reduceSub, Int.reduceLT, Int.reduceLE, Int.reduceEq, Int.reduceNe, Nat.reduceLeDiff, Nat.reduceLT, Int.reduceNeg, Nat.reducePow, Nat.reduceMod, ByteArray.size, fR, iR]
  repeat (first | refine wA ?_ | refine wB ?_ | refine wC rfl ?_ | refine wD rfl ?_ | refine wE ?_ | refine wF (by omega) ?_ | ((first | refine wG ?_ | refine wH ?_ | refine wI ?_ | refine wJ ?_ | refine wK ?_ | refine wL ?_); simp (disch := omega) only [wP, wZ, undef, UInt8.reduceToNat, Nat.reduceOr, Nat.reduceAnd, Nat.reduceXor, Nat.reduceDiv, if_pos, if_neg, aStore, frz, AV.flat, ↓reduceIte, ne_eq, reduceCtorEq, Int.reduceToNat, Nat.reduceEqDiff, Nat.reduceAdd, Nat.reduceSub, Nat.reduceMul, Int.reduceAdd, Int.reduceMul, Int.reduceSub, Int.reduceLT, Int.reduceLE, Int.reduceEq, Int.reduceNe, Nat.reduceLeDiff, Nat.reduceLT, Int.reduceNeg, Nat.reducePow, Nat.reduceMod, ByteArray.size, fR, iR]))
  refine goC_f 12 3 (nl := false) (cells := [.sc (.int .i64 8)]) [.sl false none [.sc (.int .i64 ((8 : Nat) : Int))], int ((8 : Nat) : Int)] _ (by simp (disch := omega) only [wP, wZ, undef, UInt8.reduceToNat, Nat.reduceOr, Nat.reduceAnd, Nat.reduceXor, Nat.reduceDiv, if_pos, if_neg, aStore, frz, AV.flat, ↓reduceIte, ne_eq, reduceCtorEq, Int.reduceToNat, Nat.reduceEqDiff, Nat.reduceAdd, Nat.reduceSub, Nat.reduceMul, Int.reduceAdd, Int.reduceMul, Int.reduceSub, Int.reduceLT, Int.reduceLE, Int.reduceEq, Int.reduceNe, Nat.reduceLeDiff, Nat.reduceLT, Int.reduceNeg, Nat.reducePow, Nat.reduceMod, ByteArray.size]) (by simp (disch := omega) only [wP, wZ, undef, UInt8.reduceToNat, Nat.reduceOr, Nat.reduceAnd, Nat.reduceXor, Nat.reduceDiv, if_pos, if_neg, aStore, frz, AV.flat, ↓reduceIte, ne_eq, reduceCtorEq, Int.reduceToNat, Nat.reduceEqDiff, Nat.reduceAdd, Nat.reduceSub, Nat.reduceMul, Int.reduceAdd, Int.reduceMul, Int.reduceSub, Int.reduceLT, Int.reduceLE, Int.reduceEq, Int.reduceNe, Nat.reduceLeDiff, Nat.reduceLT, Int.reduceNeg, Nat.reducePow, Nat.reduceMod, ByteArray.size, free_nA]) ?_ (by simp (disch := omega) only [wP, wZ, undef, UInt8.reduceToNat, Nat.reduceOr, Nat.reduceAnd, Nat.reduceXor, Nat.reduceDiv, if_pos, if_neg, aStore, frz, AV.flat, ↓reduceIte, ne_eq, reduceCtorEq, Int.reduceToNat, Nat.reduceEqDiff, Nat.reduceAdd, Nat.reduceSub, Nat.reduceMul, Int.reduceAdd, Int.reduceMul, Int.reduceSub, Int.reduceLT, Int.reduceLE, Int.reduceEq, Int.reduceNe, Nat.reduceLeDiff, Nat.reduceLT, Int.reduceNeg, Nat.reducePow, Nat.reduceMod, ByteArray.size, free_nA]) p4 ?_
  · simp (disch := omega) only [wP, wZ, undef, UInt8.reduceToNat, Nat.reduceOr, Nat.reduceAnd, Nat.reduceXor, Nat.reduceDiv, if_pos, if_neg, aStore, frz, AV.flat, ↓reduceIte, ne_eq, reduceCtorEq, Int.reduceToNat, Nat.reduceEqDiff, Nat.reduceAdd, Nat.reduceSub, Nat.reduceMul, Int.reduceAdd, Int.reduceMul, Int.reduceSub, Int.reduceLT, Int.reduceLE, Int.reduceEq, Int.reduceNe, Nat.reduceLeDiff, Nat.reduceLT, Int.reduceNeg, Nat.reducePow, Nat.reduceMod, ByteArray.size, fR, iR]
  repeat (first | refine wA ?_ | refine wB ?_ | refine wC rfl ?_ | refine wD rfl ?_ | refine wE ?_ | refine wF (by omega) ?_ | ((first | refine wG ?_ | refine wH ?_ | refine wI ?_ | refine wJ ?_ | refine wK ?_ | refine wL ?_); simp (disch := omega) only [wP, wZ, undef, UInt8.reduceToNat, Nat.reduceOr, Nat.reduceAnd, Nat.reduceXor, Nat.reduceDiv, if_pos, if_neg, aStore, frz, AV.flat, ↓reduceIte, ne_eq, reduceCtorEq, Int.reduceToNat, Nat.reduceEqDiff, Nat.reduceAdd, Nat.reduceSub, Nat.reduceMul, Int.reduceAdd, Int.reduceMul, Int.reduceSub, Int.reduceLT, Int.reduceLE, Int.reduceEq, Int.reduceNe, Nat.reduceLeDiff, Nat.reduceLT, Int.reduceNeg, Nat.reducePow, Nat.reduceMod, ByteArray.size, fR, iR]))
  refine goC_p _ (.inl ⟨by simp only [AV.free, AV.free.freeL, free_nA, Bool.and_self], pc⟩) ?_
  repeat (first | refine wA ?_ | refine wB ?_ | refine wC rfl ?_ | refine wD rfl ?_ | refine wE ?_ | refine wF (by omega) ?_ | ((first | refine wG ?_ | refine wH ?_ | refine wI ?_ | refine wJ ?_ | refine wK ?_ | refine wL ?_); simp (disch := omega) only [wP, wZ, undef, UInt8.reduceToNat, Nat.reduceOr, Nat.reduceAnd, Nat.reduceXor, Nat.reduceDiv, if_pos, if_neg, aStore, frz, AV.flat, ↓reduceIte, ne_eq, reduceCtorEq, Int.reduceToNat, Nat.reduceEqDiff, Nat.reduceAdd, Nat.reduceSub, Nat.reduceMul, Int.reduceAdd, Int.reduceMul, Int.reduceSub, Int.reduceLT, Int.reduceLE, Int.reduceEq, Int.reduceNe, Nat.reduceLeDiff, Nat.reduceLT, Int.reduceNeg, Nat.reducePow, Nat.reduceMod, ByteArray.size, fR, iR]))
  refine goC_p _ (.inl ⟨by simp only [AV.free, AV.free.freeL, free_nA, Bool.and_self], t1⟩) ?_
  repeat (first | refine wA ?_ | refine wB ?_ | refine wC rfl ?_ | refine wD rfl ?_ | refine wE ?_ | refine wF (by omega) ?_ | ((first | refine wG ?_ | refine wH ?_ | refine wI ?_ | refine wJ ?_ | refine wK ?_ | refine wL ?_); simp (disch := omega) only [wP, wZ, undef, UInt8.reduceToNat, Nat.reduceOr, Nat.reduceAnd, Nat.reduceXor, Nat.reduceDiv, if_pos, if_neg, aStore, frz, AV.flat, ↓reduceIte, ne_eq, reduceCtorEq, Int.reduceToNat, Nat.reduceEqDiff, Nat.reduceAdd, Nat.reduceSub, Nat.reduceMul, Int.reduceAdd, Int.reduceMul, Int.reduceSub, Int.reduceLT, Int.reduceLE, Int.reduceEq, Int.reduceNe, Nat.reduceLeDiff, Nat.reduceLT, Int.reduceNeg, Nat.reducePow, Nat.reduceMod, ByteArray.size, fR, iR]))
  refine goC_f 20 4 (nl := false) (cells := [.sc (.int .i64 5)]) [.sl false none [.sc (.int .i64 ((5 : Nat) : Int))], int ((32 : Nat) : Int)] _ (by simp (disch := omega) only [wP, wZ, undef, UInt8.reduceToNat, Nat.reduceOr, Nat.reduceAnd, Nat.reduceXor, Nat.reduceDiv, if_pos, if_neg, aStore, frz, AV.flat, ↓reduceIte, ne_eq, reduceCtorEq, Int.reduceToNat, Nat.reduceEqDiff, Nat.reduceAdd, Nat.reduceSub, Nat.reduceMul, Int.reduceAdd, Int.reduceMul, Int.reduceSub, Int.reduceLT, Int.reduceLE, Int.reduceEq, Int.reduceNe, Nat.reduceLeDiff, Nat.reduceLT, Int.reduceNeg, Nat.reducePow, Nat.reduceMod, ByteArray.size]) (by simp (disch := omega) only [wP, wZ, undef, UInt8.reduceToNat, Nat.reduceOr, Nat.reduceAnd, Nat.reduceXor, Nat.reduceDiv, if_pos, if_neg, aStore, frz, AV.flat, ↓reduceIte, ne_eq, reduceCtorEq, Int.reduceToNat, Nat.reduceEqDiff, Nat.reduceAdd, Nat.reduceSub, Nat.reduceMul, Int.reduceAdd, Int.reduceMul, Int.reduceSub, Int.reduceLT, Int.reduceLE, Int.reduceEq, Int.reduceNe, Nat.reduceLeDiff, Nat.reduceLT, Int.reduceNeg, Nat.reducePow, Nat.reduceMod, ByteArray.size, free_nA]) ?_ (by simp (disch := omega) only [wP, wZ, undef, UInt8.reduceToNat, Nat.reduceOr, Nat.reduceAnd, Nat.reduceXor, Nat.reduceDiv, if_pos, if_neg, aStore, frz, AV.flat, ↓reduceIte, ne_eq, reduceCtorEq, Int.reduceToNat, Nat.reduceEqDiff, Nat.reduceAdd, Nat.reduceSub, Nat.reduceMul, Int.reduceAdd, Int.reduceMul, Int.reduceSub, Int.reduceLT, Int.reduceLE, Int.reduceEq, Int.reduceNe, Nat.reduceLeDiff, Nat.reduceLT, Int.reduceNeg, Nat.reducePow, Nat.reduceMod, ByteArray.size, free_nA]) p5 ?_
  · simp (disch := omega) only [wP, wZ, undef, UInt8.reduceToNat, Nat.reduceOr, Nat.reduceAnd, Nat.reduceXor, Nat.reduceDiv, if_pos, if_neg, aStore, frz, AV.flat, ↓reduceIte, ne_eq, reduceCtorEq, Int.reduceToNat, Nat.reduceEqDiff, Nat.reduceAdd, Nat.reduceSub, Nat.reduceMul, Int.reduceAdd, Int.reduceMul, Int.reduceSub, Int.reduceLT, Int.reduceLE, Int.reduceEq, Int.reduceNe, Nat.reduceLeDiff, Nat.reduceLT, Int.reduceNeg, Nat.reducePow, Nat.reduceMod, ByteArray.size, fR, iR]
  repeat (first | refine wA ?_ | refine wB ?_ | refine wC rfl ?_ | refine wD rfl ?_ | refine wE ?_ | refine wF (by omega) ?_ | ((first | refine wG ?_ | refine wH ?_ | refine wI ?_ | refine wJ ?_ | refine wK ?_ | refine wL ?_); simp (disch := omega) only [wP, wZ, undef, UInt8.reduceToNat, Nat.reduceOr, Nat.reduceAnd, Nat.reduceXor, Nat.reduceDiv, if_pos, if_neg, aStore, frz, AV.flat, ↓reduceIte, ne_eq, reduceCtorEq, Int.reduceToNat, Nat.reduceEqDiff, Nat.reduceAdd, Nat.reduceSub, Nat.reduceMul, Int.reduceAdd, Int.reduceMul, Int.reduceSub, Int.reduceLT, Int.reduceLE, Int.reduceEq, Int.reduceNe, Nat.reduceLeDiff, Nat.reduceLT, Int.reduceNeg, Nat.reducePow, Nat.reduceMod, ByteArray.size, fR, iR]))
  refine goC_p _ (.inl ⟨by simp only [AV.free, AV.free.freeL, free_nA, Bool.and_self], t2⟩) ?_
  repeat (first | refine wA ?_ | refine wB ?_ | refine wC rfl ?_ | refine wD rfl ?_ | refine wE ?_ | refine wF (by omega) ?_ | ((first | refine wG ?_ | refine wH ?_ | refine wI ?_ | refine wJ ?_ | refine wK ?_ | refine wL ?_); simp (disch := omega) only [wP, wZ, undef, UInt8.reduceToNat, Nat.reduceOr, Nat.reduceAnd, Nat.reduceXor, Nat.reduceDiv, if_pos, if_neg, aStore, frz, AV.flat, ↓reduceIte, ne_eq, reduceCtorEq, Int.reduceToNat, Nat.reduceEqDiff, Nat.reduceAdd, Nat.reduceSub, Nat.reduceMul, Int.reduceAdd, Int.reduceMul, Int.reduceSub, Int.reduceLT, Int.reduceLE, Int.reduceEq, Int.reduceNe, Nat.reduceLeDiff, Nat.reduceLT, Int.reduceNeg, Nat.reducePow, Nat.reduceMod, ByteArray.size, cds, free_trR]))
end Go.Proofs.YtbcncdpaigljeaaGreatDoor.Aw
namespace Go.Proofs.YtbcncdpaigljeaaGreatDoor.Aw
open Go
set_option linter.unusedSimpArgs false
set_option linter.unusedVariables false
theorem sum_snoc {l : List Nat} {k : Nat} (h : k < l.length) : (l.take (k + 1)).sum = (l.take k).sum + l.getD k 0 := by
  rw [snocD (d := 0) h, List.sum_append]; simp
theorem sum_le15 : ∀ {l : List Nat}, (∀ x ∈ l, x ≤ 15) → l.sum ≤ 15 * l.length
  | [], _ => by simp
  | x :: l, h => by
    have := sum_le15 (l := l) fun y hy => h y (by simp [hy])
    have := h x (by simp)
    simp only [List.sum_cons, List.length_cons]; omega
theorem wt_half {n : Nat} : wt n ≤ 16384 * n := by
  unfold wt
  split
  · omega
  · rename_i h
    have h2 : 2 ^ 1 ≤ 2 ^ n := two_pow_le (by omega)
    have : 32768 / 2 ^ n ≤ 32768 / 2 := Nat.div_le_div_left (by simpa using h2) (by omega)
    omega
theorem kraft_sum {l : List Nat} : kraft l ≤ 16384 * l.sum := by
  induction l with
  | nil => simp [kraft]
  | cons x l ih => simp only [kraft, List.sum_cons]; have := wt_half (n := x); omega
theorem fewN_kraft {d : List Nat} (h : fewN d = true) : kraft d ≤ 32768 := by
  have := kraft_sum (l := d)
  simp only [fewN, fulN, Bool.or_eq_true, decide_eq_true_eq] at h
  omega
set_option maxRecDepth 100000 in
theorem inf_fewOrFull_c [Tabs Tryz.prog] (nl : Bool) (l : List Nat) (h15 : ∀ x ∈ l, x ≤ 15) (hl : l.length ≤ 1000) : Con Tryz.prog n_inflate_fewOrFull [.sl nl none (l.map nA)] (boo (fewN l)) := by
  refine Con.of' mix Tryz.func140 rfl Tryz.ntmps140 e_inflate_fewOrFull r_inflate_fewOrFull (by simp) (by simp only [AV.free, AV.free.freeL, free_nA, Bool.and_self]) rfl ?_
  unfold s_inflate_fewOrFull
  have hf := huff_Full_n nl l h15 hl
  repeat (first | refine wA ?_ | refine wB ?_ | refine wC rfl ?_ | refine wD rfl ?_ | refine wE ?_ | refine wF (by omega) ?_ | ((first | refine wG ?_ | refine wH ?_ | refine wI ?_ | refine wJ ?_ | refine wK ?_ | refine wL ?_); simp (disch := omega) only [wP, wZ, undef, seval, if_pos, if_neg, aStore, frz, AV.flat, ↓reduceIte, ne_eq, reduceCtorEq, ByteArray.size]))
  refine SWp.loop (α := Nat) (fun k => mk 22 0 [(0, .sl nl none (l.map nA)), (3, int ((l.take k).sum : Nat)), (6, .sl nl none (l.map nA)), (7, int l.length), (8, int k)] [])
    (fun k => k ≤ l.length) (fun k => l.length - k) 0 (Nat.zero_le _) (le_mk rfl ?_ ?_ ?_) ?_
  · exact Nat.le_refl _
  iterate 2 (case _ => simp (disch := omega) only [wP, wZ, undef, seval, if_pos, if_neg, aStore, frz, AV.flat, ↓reduceIte, ne_eq, reduceCtorEq, ByteArray.size, List.take_zero, List.sum_nil])
  rintro k hk -
  have hsl := sum_le15 (l := l.take k) fun x hx => h15 x (List.mem_of_mem_take hx)
  have htl : (l.take k).length ≤ 1000 := by rw [List.length_take]; omega
  repeat (first | refine wA ?_ | refine wB ?_ | refine wC rfl ?_ | refine wD rfl ?_ | refine wE ?_ | refine wF (by omega) ?_ | ((first | refine wG ?_ | refine wH ?_ | refine wI ?_ | refine wJ ?_ | refine wK ?_ | refine wL ?_); simp (disch := omega) only [wP, wZ, undef, seval, if_pos, if_neg, aStore, frz, AV.flat, ↓reduceIte, ne_eq, reduceCtorEq, ByteArray.size]))
  refine SWp.cond rfl (fun h => ?_) (fun h => ?_)
  · simp only [decide_eq_true_eq] at h
    have hkl : k < l.length := by omega
    have hs := sum_snoc hkl
    have hx15 : l.getD k 0 ≤ 15 := by
      have : l.getD k 0 = l[k] := by simp [List.getD, List.getElem?_eq_getElem hkl]
      rw [this]; exact h15 _ (List.getElem_mem hkl)
    obtain ⟨x, hx⟩ : ∃ x, x = l.getD k 0 := ⟨_, rfl⟩
    obtain ⟨y, hy⟩ : ∃ y, y = (l.take k).sum := ⟨_, rfl⟩
    rw [← hx] at hs hx15
    rw [← hy] at hs hsl
    repeat (first | refine wA ?_ | refine wB ?_ | refine wC rfl ?_ | refine wD rfl ?_ | refine wE ?_ | refine wF (by omega) ?_ | ((first | refine wG ?_ | refine wH ?_ | refine wI ?_ | refine wJ ?_ | refine wK ?_ | refine wL ?_); simp (disch := omega) only [wP, wZ, undef, seval, if_pos, if_neg, aStore, frz, AV.flat, ↓reduceIte, ne_eq, reduceCtorEq, ByteArray.size, iR, ← hx, ← hy]))
    refine At.of (k + 1) (by omega) (by omega) rfl rfl (Nat.le_refl _) ?_ ?_
    iterate 2 (case _ => simp (disch := omega) only [wP, wZ, undef, seval, if_pos, if_neg, aStore, frz, AV.flat, ↓reduceIte, ne_eq, reduceCtorEq, ByteArray.size, hs])
  · simp only [decide_eq_false_iff_not] at h
    obtain rfl : k = l.length := by omega
    rw [List.take_length] at hsl htl
    obtain ⟨y, hy⟩ : ∃ y, y = l.sum := ⟨_, rfl⟩
    have hfe : fewN l = (decide (y ≤ 1) || fulN l) := by rw [hy]; rfl
    rw [hfe]
    by_cases c : y ≤ 1
    · have d : decide ((y : Int) ≤ 1) = true := decide_eq_true (by omega)
      rw [decide_eq_true c, Bool.true_or]
      repeat (first | refine wA ?_ | refine wB ?_ | refine wC rfl ?_ | refine wD rfl ?_ | refine wE ?_ | refine wF (by omega) ?_ | ((first | refine wG ?_ | refine wH ?_ | refine wI ?_ | refine wJ ?_ | refine wK ?_ | refine wL ?_); simp (disch := omega) only [wP, wZ, undef, seval, if_pos, if_neg, aStore, frz, AV.flat, ↓reduceIte, ne_eq, reduceCtorEq, ByteArray.size, List.take_length, ← hy, d]))
    · have d : decide ((y : Int) ≤ 1) = false := decide_eq_false (by omega)
      rw [decide_eq_false c, Bool.false_or]
      repeat (first | refine wA ?_ | refine wB ?_ | refine wC rfl ?_ | refine wD rfl ?_ | refine wE ?_ | refine wF (by omega) ?_ | ((first | refine wG ?_ | refine wH ?_ | refine wI ?_ | refine wJ ?_ | refine wK ?_ | refine wL ?_); simp (disch := omega) only [wP, wZ, undef, seval, if_pos, if_neg, aStore, frz, AV.flat, ↓reduceIte, ne_eq, reduceCtorEq, ByteArray.size, List.take_length, ← hy, d]))
      refine goC_p _ (.inl ⟨by simp only [AV.free, AV.free.freeL, free_nA, Bool.and_self], hf⟩) ?_
      repeat (first | refine wA ?_ | refine wB ?_ | refine wC rfl ?_ | refine wD rfl ?_ | refine wE ?_ | refine wF (by omega) ?_ | ((first | refine wG ?_ | refine wH ?_ | refine wI ?_ | refine wJ ?_ | refine wK ?_ | refine wL ?_); simp (disch := omega) only [wP, wZ, undef, seval, if_pos, if_neg, aStore, frz, AV.flat, ↓reduceIte, ne_eq, reduceCtorEq, ByteArray.size]))
set_option maxRecDepth 100000 in
theorem inf_codesOf_h [Tabs Tryz.prog] (n1 n2 : Bool) (l d : List Nat) (hl15 : ∀ x ∈ l, x ≤ 15) (hd15 : ∀ x ∈ d, x ≤ 15) (hl : 257 ≤ l.length) (hl2 : l.length ≤ 320) (hd : d.length ≤ 320) :
    Con Tryz.prog n_inflate_codesOf [.sl n1 none (l.map nA), .sl n2 none (d.map nA)] (if codN l d = true then .tup [cds l d, int 0] else .tup [.sc (.pointer none), int 3]) := by
  have hfr : (if codN l d = true then AV.tup [cds l d, int 0] else .tup [.sc (.pointer none), int 3]).free = true := by
    by_cases c : codN l d = true
    · rw [if_pos c]; simp only [AV.free, AV.free.freeL, free_cds, int, Bool.and_self]
    · rw [if_neg c]; rfl
  refine Con.of' mix Tryz.func107 rfl Tryz.ntmps107 e_inflate_codesOf r_inflate_codesOf (by simp) (by simp only [AV.free, AV.free.freeL, free_nA, Bool.and_self]) hfr ?_
  clear hfr
  unfold s_inflate_codesOf
  have hf := huff_Full_n n1 l hl15 (by omega)
  have hw := inf_fewOrFull_c n2 d hd15 (by omega)
  have hfl : AV.free.freeL [.sl n1 none (l.map nA)] = true := by simp only [AV.free, AV.free.freeL, free_nA, Bool.and_self]
  have hfd : AV.free.freeL [.sl n2 none (d.map nA)] = true := by simp only [AV.free, AV.free.freeL, free_nA, Bool.and_self]
  obtain ⟨x, hx⟩ : ∃ x, x = l.getD 256 0 := ⟨_, rfl⟩
  have hco : codN l d = (decide (x ≠ 0) && fulN l && fewN d) := by rw [hx]; rfl
  rw [hco]
  by_cases c1 : x = 0
  · have d1 : decide ((x : Int) = 0) = true := decide_eq_true (by omega)
    rw [decide_eq_false (by simpa using c1), Bool.false_and, Bool.false_and, if_neg (by simp)]
    repeat (first | refine wA ?_ | refine wB ?_ | refine wC rfl ?_ | refine wD rfl ?_ | refine wE ?_ | refine wF (by omega) ?_ | ((first | refine wG ?_ | refine wH ?_ | refine wI ?_ | refine wJ ?_ | refine wK ?_ | refine wL ?_); simp (disch := omega) only [wP, wZ, undef, seval, if_pos, if_neg, aStore, frz, AV.flat, ↓reduceIte, ne_eq, reduceCtorEq, ByteArray.size, iR, ← hx, d1]))
  have d1 : decide ((x : Int) = 0) = false := decide_eq_false (by omega)
  rw [decide_eq_true (by simpa using c1), Bool.true_and]
  cases c2 : fulN l with
  | false =>
    rw [c2] at hf
    rw [Bool.false_and, if_neg (by simp)]
    repeat (first | refine wA ?_ | refine wB ?_ | refine wC rfl ?_ | refine wD rfl ?_ | refine wE ?_ | refine wF (by omega) ?_ | ((first | refine wG ?_ | refine wH ?_ | refine wI ?_ | refine wJ ?_ | refine wK ?_ | refine wL ?_); simp (disch := omega) only [wP, wZ, undef, seval, if_pos, if_neg, aStore, frz, AV.flat, ↓reduceIte, ne_eq, reduceCtorEq, ByteArray.size, iR, ← hx, d1]))
    refine goC_p _ (.inl ⟨hfl, hf⟩) ?_
    repeat (first | refine wA ?_ | refine wB ?_ | refine wC rfl ?_ | refine wD rfl ?_ | refine wE ?_ | refine wF (by omega) ?_ | ((first | refine wG ?_ | refine wH ?_ | refine wI ?_ | refine wJ ?_ | refine wK ?_ | refine wL ?_); simp (disch := omega) only [wP, wZ, undef, seval, if_pos, if_neg, aStore, frz, AV.flat, ↓reduceIte, ne_eq, reduceCtorEq, ByteArray.size, iR, ← hx, d1]))
  | true =>
    rw [c2] at hf
    rw [Bool.true_and]
    cases c3 : fewN d with
    | false =>
      rw [c3] at hw
      rw [if_neg (by simp)]
      repeat (first | refine wA ?_ | refine wB ?_ | refine wC rfl ?_ | refine wD rfl ?_ | refine wE ?_ | refine wF (by omega) ?_ | ((first | refine wG ?_ | refine wH ?_ | refine wI ?_ | refine wJ ?_ | refine wK ?_ | refine wL ?_); simp (disch := omega) only [wP, wZ, undef, seval, if_pos, if_neg, aStore, frz, AV.flat, ↓reduceIte, ne_eq, reduceCtorEq, ByteArray.size, iR, ← hx, d1]))
      refine goC_p _ (.inl ⟨hfl, hf⟩) ?_
      repeat (first | refine wA ?_ | refine wB ?_ | refine wC rfl ?_ | refine wD rfl ?_ | refine wE ?_ | refine wF (by omega) ?_ | ((first | refine wG ?_ | refine wH ?_ | refine wI ?_ | refine wJ ?_ | refine wK ?_ | refine wL ?_); simp (disch := omega) only [wP, wZ, undef, seval, if_pos, if_neg, aStore, frz, AV.flat, ↓reduceIte, ne_eq, reduceCtorEq, ByteArray.size, iR, ← hx, d1]))
      refine goC_p _ (.inl ⟨hfd, hw⟩) ?_
      repeat (first | refine wA ?_ | refine wB ?_ | refine wC rfl ?_ | refine wD rfl ?_ | refine wE ?_ | refine wF (by omega) ?_ | ((first | refine wG ?_ | refine wH ?_ | refine wI ?_ | refine wJ ?_ | refine wK ?_ | refine wL ?_); simp (disch := omega) only [wP, wZ, undef, seval, if_pos, if_neg, aStore, frz, AV.flat, ↓reduceIte, ne_eq, reduceCtorEq, ByteArray.size, iR, ← hx, d1]))
    | true =>
      rw [c3] at hw
      rw [if_pos rfl]
      have t1 := huff_NewTree_n n1 l hl15 hl2 (by simp only [fulN, decide_eq_true_eq] at c2; omega)
      have t2 := huff_NewTree_n n2 d hd15 hd (fewN_kraft c3)
      repeat (first | refine wA ?_ | refine wB ?_ | refine wC rfl ?_ | refine wD rfl ?_ | refine wE ?_ | refine wF (by omega) ?_ | ((first | refine wG ?_ | refine wH ?_ | refine wI ?_ | refine wJ ?_ | refine wK ?_ | refine wL ?_); simp (disch := omega) only [wP, wZ, undef, seval, if_pos, if_neg, aStore, frz, AV.flat, ↓reduceIte, ne_eq, reduceCtorEq, ByteArray.size, iR, ← hx, d1]))
      refine goC_p _ (.inl ⟨hfl, hf⟩) ?_
      repeat (first | refine wA ?_ | refine wB ?_ | refine wC rfl ?_ | refine wD rfl ?_ | refine wE ?_ | refine wF (by omega) ?_ | ((first | refine wG ?_ | refine wH ?_ | refine wI ?_ | refine wJ ?_ | refine wK ?_ | refine wL ?_); simp (disch := omega) only [wP, wZ, undef, seval, if_pos, if_neg, aStore, frz, AV.flat, ↓reduceIte, ne_eq, reduceCtorEq, ByteArray.size, iR, ← hx, d1]))
      refine goC_p _ (.inl ⟨hfd, hw⟩) ?_
      repeat (first | refine wA ?_ | refine wB ?_ | refine wC rfl ?_ | refine wD rfl ?_ | refine wE ?_ | refine wF (by omega) ?_ | ((first | refine wG ?_ | refine wH ?_ | refine wI ?_ | refine wJ ?_ | refine wK ?_ | refine wL ?_); simp (disch := omega) only [wP, wZ, undef, seval, if_pos, if_neg, aStore, frz, AV.flat, ↓reduceIte, ne_eq, reduceCtorEq, ByteArray.size, iR, ← hx, d1]))
      refine goC_p _ (.inl ⟨hfl, t1⟩) ?_
      repeat (first | refine wA ?_ | refine wB ?_ | refine wC rfl ?_ | refine wD rfl ?_ | refine wE ?_ | refine wF (by omega) ?_ | ((first | refine wG ?_ | refine wH ?_ | refine wI ?_ | refine wJ ?_ | refine wK ?_ | refine wL ?_); simp (disch := omega) only [wP, wZ, undef, seval, if_pos, if_neg, aStore, frz, AV.flat, ↓reduceIte, ne_eq, reduceCtorEq, ByteArray.size, iR, ← hx, d1]))
      refine goC_p _ (.inl ⟨hfd, t2⟩) ?_
      repeat (first | refine wA ?_ | refine wB ?_ | refine wC rfl ?_ | refine wD rfl ?_ | refine wE ?_ | refine wF (by omega) ?_ | ((first | refine wG ?_ | refine wH ?_ | refine wI ?_ | refine wJ ?_ | refine wK ?_ | refine wL ?_); simp (disch := omega) only [wP, wZ, undef, seval, if_pos, if_neg, aStore, frz, AV.flat, ↓reduceIte, ne_eq, reduceCtorEq, ByteArray.size, iR, cds, free_trR]))
      all_goals trace_state
end Go.Proofs.YtbcncdpaigljeaaGreatDoor.Aw
