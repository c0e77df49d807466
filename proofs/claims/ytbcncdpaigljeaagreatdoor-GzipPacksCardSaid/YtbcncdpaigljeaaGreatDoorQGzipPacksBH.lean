/- Parts of the proof of GzipPacks. -/
import Derived.Test.YtbcncdpaigljeaaGreatDoorQGzipPacksBG
import Derived.Test.YtbcncdpaigljeaaGreatDoorQGzipPacksBC
import Derived.Test.YtbcncdpaigljeaaGreatDoorQGzipPacksBE
import Derived.Test.YtbcncdpaigljeaaGreatDoorQGzipPacksBF
import Derived.Test.YtbcncdpaigljeaaGreatDoorQGzipPacksAW
import Derived.Test.YtbcncdpaigljeaaGreatDoorRows
import Derived.MakeChecks
import Derived.Lib.LaidTab
namespace Go.Proofs.YtbcncdpaigljeaaGreatDoor.Aw
open Go
set_option linter.unusedSimpArgs false
set_option linter.unusedVariables false
set_option maxRecDepth 100000 in
theorem packer_begin_h [Tabs Tryz.prog] (L : List Nat) (hl : L.length ≤ 1900000) (hL : ∀ x ∈ L, x < 2) (u v : Nat) (hu : u < 2) (hv : v < 4) (i m : Nat) (hi : i = L.length) (hm : m = (L.length + 7) / 8) :
   HCon Tryz.prog n_deflate_packer_begin [.agg [.op 1000 0 0], .sc (.int .i64 (u : Int)), .sc (.int .i64 (v : Int))] [.row false (wrR 0 m i), .row (nl0 m) ((bytesB L).map u8)] (.tup [])
     [(1000, 0, .row false (wrR 123 ((i + 1 + 2 + 7) / 8) (i + 1 + 2))), (1001, 123, .row (nl0 ((i + 1 + 2 + 7) / 8)) ((bytesB (L ++ (digB u 1 ++ digB v 2))).map u8))] 124 := by
 refine HCon.of' mix Tryz.func46 rfl Tryz.ntmps46 e_deflate_packer_begin r_deflate_packer_begin (by simp) (by simp [AV.gl, AV.gl.glL]) wr_gl ?_
 unfold s_deflate_packer_begin
 have p1 := huff_Put_h L (by omega) hL u (by omega) 1 (by omega) i m hi hm
 have hL1 : ∀ x ∈ L ++ digB u 1, x < 2 := fun x hx => (List.mem_append.1 hx).elim (hL x) (digB_lt x)
 have hl1 : (L ++ digB u 1).length = i + 1 := by rw [List.length_append, length_digB, hi]
 have p2 := huff_Put_h (L ++ digB u 1) (by omega) hL1 v (by omega) 2 (by omega) (i + 1) ((i + 1 + 7) / 8) (by omega) (by omega)
 rw [List.append_assoc] at p2
 obtain ⟨b1, e1⟩ : ∃ b, b = bytesB (L ++ digB u 1) := ⟨_, rfl⟩
 obtain ⟨b2, e2⟩ : ∃ b, b = bytesB (L ++ (digB u 1 ++ digB v 2)) := ⟨_, rfl⟩
 rw [← e1] at p1 p2
 rw [← e2] at p2 ⊢
 repeat (first | refine zS ?_ | exact zT)
 refine goC_h [(1000, 0), (1001, 0)] 2000 p1 (by simp) (by simp) ?_ ?_ ?_
 iterate 2 (case _ => (first | exact yU @wrR.eq_1 | refine yR @wrR.eq_1 ?_))
 repeat (first | refine zR (ja2 @wrR.eq_1 iR) ?_ | exact zU (ja2 @wrR.eq_1 iR))
 refine goC_h [(1000, 0), (1001, 62)] 3000 p2 (by simp) (by simp) ?_ ?_ ?_
 iterate 2 (case _ => (first | exact yU @wrR.eq_1 | refine yR @wrR.eq_1 ?_))
 repeat (first | refine zR (ja2 @wrR.eq_1 iR) ?_ | exact zU (ja2 @wrR.eq_1 iR))
def blkS (last : Nat) (b : List UInt8) : List UInt8 :=
 UInt8.ofNat last :: UInt8.ofNat (b.length % 256) :: UInt8.ofNat (b.length / 256) :: UInt8.ofNat ((65535 - b.length) % 256) :: UInt8.ofNat ((65535 - b.length) / 256) :: b
theorem bits_one {X : List UInt8} {c : UInt8} : bitsL (X ++ [c]) = bitsL X ++ bitsB c := by rw [bitsL_append]; simp [bitsL]
theorem bytes_head {X : List UInt8} {u : Nat} (hu : u < 2) : bytesB (bitsL X ++ (digB u 1 ++ digB 0 2)) = X ++ [UInt8.ofNat u] := by
 rw [← bytes_pad]
 have hl : (bitsL X ++ (digB u 1 ++ digB 0 2)).length = 8 * X.length + 3 := by rw [List.length_append, length_bitsL, List.length_append, length_digB, length_digB]
 have : padB (bitsL X ++ (digB u 1 ++ digB 0 2)) = bitsL (X ++ [UInt8.ofNat u]) := by
   unfold padB
   rw [hl, show 8 * ((8 * X.length + 3 + 7) / 8) - (8 * X.length + 3) = 5 by omega, bits_one, List.append_assoc]
   congr 1
   obtain rfl | rfl : u = 0 ∨ u = 1 := by omega
   · decide
   · decide
 rw [this, bytes_bits]
theorem dig16 {n : Nat} (h : n < 65536) : digB n 16 = bitsB (UInt8.ofNat (n % 256)) ++ bitsB (UInt8.ofNat (n / 256)) := by
 have e1 : (UInt8.ofNat (n % 256)).toNat = n % 256 := by rw [UInt8.toNat_ofNat']; omega
 have e2 : (UInt8.ofNat (n / 256)).toNat = n / 256 := by rw [UInt8.toNat_ofNat']; omega
 refine List.ext_getElem (by simp [digB, bitsB]) fun k h1 h2 => ?_
 have hk : k < 16 := by simpa [digB] using h1
 simp only [digB, List.getElem_map, List.getElem_range]
 by_cases c : k < 8
 · rw [List.getElem_append_left (by rw [length_bitsB]; exact c)]
   simp only [bitsB, List.getElem_map, List.getElem_range, e1]
   have h8 : 2 ^ k * 2 ^ (8 - k) = 256 := by rw [← Nat.pow_add, show k + (8 - k) = 8 by omega]
   rw [← h8, Nat.mod_mul_right_div_self]
   rw [show 8 - k = (7 - k) + 1 by omega, Nat.pow_succ, Nat.mul_comm, Nat.mod_mul_right_mod]
 · rw [List.getElem_append_right (by rw [length_bitsB]; omega)]
   simp only [bitsB, List.getElem_map, List.getElem_range, e2, List.length_map, List.length_range]
   have h8 : 256 * 2 ^ (k - 8) = 2 ^ k := by rw [show (256 : Nat) = 2 ^ 8 from rfl, ← Nat.pow_add, show 8 + (k - 8) = k by omega]
   rw [Nat.div_div_eq_div_mul, h8]
theorem bits_two {X : List UInt8} {n : Nat} (h : n < 65536) : bitsL X ++ digB n 16 = bitsL (X ++ [UInt8.ofNat (n % 256), UInt8.ofNat (n / 256)]) := by
 rw [dig16 h, bitsL_append]
 simp [bitsL]
set_option maxRecDepth 100000 in
theorem packer_storedBlock_h [Tabs Tryz.prog] (X : List UInt8) (hX : X.length ≤ 200000) (u : Nat) (hu : u < 2) (nl : Bool) (b : List UInt8) (hb : b.length ≤ 65535) (i m m' : Nat) (hm : m = X.length) (hi : i = 8 * m) (hm' : m' = m + 5 + b.length) :
   HCon Tryz.prog n_deflate_packer_storedBlock [.agg [.op 1000 0 0], .sc (.int .i64 (u : Int)), .sl nl none (b.map u8)] [.row false (wrR 0 m i), .row (nl0 m) (X.map u8)] (.tup [])
     [(1000, 0, .row false (wrR 250 m' (8 * m'))), (1001, 250, .row (nl0 m') ((X ++ blkS u b).map u8))] 252 := by
 refine HCon.of' mix Tryz.func45 rfl Tryz.ntmps45 e_deflate_packer_storedBlock r_deflate_packer_storedBlock (by simp) (by simp only [AV.gl, AV.gl.glL, and_true, true_and]; exact ⟨by omega, glL_of_free _ _ free_u8⟩) wr_gl ?_
 unfold s_deflate_packer_storedBlock
 obtain ⟨n, hn⟩ : ∃ n, n = b.length := ⟨_, rfl⟩
 have p1 := packer_begin_h (bitsL X) (by rw [length_bitsL]; omega) bitsL_lt u 0 hu (by omega) i m (by rw [length_bitsL]; omega) (by rw [length_bitsL]; omega)
 rw [bytes_bits, bytes_head hu] at p1
 obtain ⟨X1, hX1⟩ : ∃ Y, Y = X ++ [UInt8.ofNat u] := ⟨_, rfl⟩
 have l1 : X1.length = m + 1 := by rw [hX1]; simp [hm]
 have em1 : (i + 1 + 2 + 7) / 8 = m + 1 := by omega
 rw [← hX1, em1] at p1
 have p2 := huff_WAlign_h X1 (by omega) (i + 1 + 2) (m + 1) l1.symm
 have p3 := huff_Put_h (bitsL X1) (by rw [length_bitsL]; omega) bitsL_lt n (by omega) 16 (by omega) (8 * (m + 1)) (m + 1) (by rw [length_bitsL]; omega) (by rw [length_bitsL]; omega)
 rw [bytes_bits, bits_two (by omega), bytes_bits] at p3
 obtain ⟨X2, hX2⟩ : ∃ Y, Y = X1 ++ [UInt8.ofNat (n % 256), UInt8.ofNat (n / 256)] := ⟨_, rfl⟩
 have l2 : X2.length = m + 3 := by rw [hX2]; simp [l1]
 have em2 : (8 * (m + 1) + 16 + 7) / 8 = m + 3 := by omega
 have ei2 : 8 * (m + 1) + 16 = 8 * (m + 3) := by omega
 rw [← hX2, em2, ei2] at p3
 have p4 := huff_Put_h (bitsL X2) (by rw [length_bitsL]; omega) bitsL_lt (65535 - n) (by omega) 16 (by omega) (8 * (m + 3)) (m + 3) (by rw [length_bitsL]; omega) (by rw [length_bitsL]; omega)
 rw [bytes_bits, bits_two (by omega), bytes_bits] at p4
 obtain ⟨X3, hX3⟩ : ∃ Y, Y = X2 ++ [UInt8.ofNat ((65535 - n) % 256), UInt8.ofNat ((65535 - n) / 256)] := ⟨_, rfl⟩
 have l3 : X3.length = m + 5 := by rw [hX3]; simp [l2]
 have em3 : (8 * (m + 3) + 16 + 7) / 8 = m + 5 := by omega
 have ei3 : 8 * (m + 3) + 16 = 8 * (m + 5) := by omega
 rw [← hX3, em3, ei3] at p4
 have p5 := huff_WRaw_h X3 (by omega) nl b (by omega) (8 * (m + 5)) (m + 5) l3.symm
 have hfin : X3 ++ b = X ++ blkS u b := by rw [hX3, hX2, hX1, hn]; simp [blkS]
 rw [hfin, ← hm'] at p5
 obtain ⟨Y, hY⟩ : ∃ Y, Y = X ++ blkS u b := ⟨_, rfl⟩
 rw [← hY] at p5 ⊢
 obtain ⟨n', hn'⟩ : ∃ n', n' = 65535 - n := ⟨_, rfl⟩
 have en : (65535 : Int) - (n : Int) = (n' : Int) := by omega
 rw [← hn'] at p4
 clear hfin hY hX3 hX2 hX1
 repeat (first | refine zS ?_ | exact zT)
 refine goC_h [(1000, 0), (1001, 0)] 2000 p1 (by simp) (by simp) ?_ ?_ ?_
 iterate 2 (case _ => (first | exact yU @wrR.eq_1 | refine yR @wrR.eq_1 ?_))
 repeat (first | refine zR (ja2 @wrR.eq_1 iR) ?_ | exact zU (ja2 @wrR.eq_1 iR))
 refine goC_h [(1000, 0), (1001, 125)] 3000 p2 (by simp) (by simp) ?_ ?_ ?_
 iterate 2 (case _ => (first | exact yU @wrR.eq_1 | refine yR @wrR.eq_1 ?_))
 repeat (first | refine zR (ja4 @wrR.eq_1 iR @List.length_map.{0, 0} hn.symm) ?_ | exact zU (ja4 @wrR.eq_1 iR @List.length_map.{0, 0} hn.symm))
 refine goC_h [(1000, 0), (1001, 125)] 4000 p3 (by simp) (by simp) ?_ ?_ ?_
 iterate 2 (case _ => (first | exact yU @wrR.eq_1 | refine yR @wrR.eq_1 ?_))
 repeat (first | refine zR (ja5 @wrR.eq_1 iR @List.length_map.{0, 0} hn.symm @en) ?_ | exact zU (ja5 @wrR.eq_1 iR @List.length_map.{0, 0} hn.symm @en))
 refine goC_h [(1000, 0), (1001, 187)] 5000 p4 (by simp) (by simp) ?_ ?_ ?_
 iterate 2 (case _ => (first | exact yU @wrR.eq_1 | refine yR @wrR.eq_1 ?_))
 repeat (first | refine zR (ja2 @wrR.eq_1 iR) ?_ | exact zU (ja2 @wrR.eq_1 iR))
 refine goC_h [(1000, 0), (1001, 248)] 6000 p5 (by simp) (by simp) ?_ ?_ ?_
 iterate 2 (case _ => (first | exact yU @wrR.eq_1 | refine yR @wrR.eq_1 ?_))
 repeat (first | refine zR (ja2 @wrR.eq_1 iR) ?_ | exact zU (ja2 @wrR.eq_1 iR))
def stK (b : List UInt8) : Nat → List UInt8
 | 0 => []
 | k + 1 => stK b k ++ blkS 0 ((b.drop (65535 * k)).take 65535)
def stL (b : List UInt8) : List UInt8 := stK b ((b.length - 1) / 65535) ++ blkS 1 (b.drop (65535 * ((b.length - 1) / 65535)))
theorem length_blkS {u : Nat} {b : List UInt8} : (blkS u b).length = b.length + 5 := rfl
theorem length_stK {b : List UInt8} : ∀ {k : Nat}, 65535 * k ≤ b.length → (stK b k).length = 65540 * k
 | 0, _ => rfl
 | k + 1, h => by rw [stK, List.length_append, length_stK (by omega), length_blkS, List.length_take, List.length_drop]; omega
set_option maxRecDepth 100000 in
theorem packer_stored_h [Tabs Tryz.prog] (nl : Bool) (b : List UInt8) (hb : b.length ≤ 170000) (m' : Nat) (hm' : m' = (stL b).length) :
   HCon Tryz.prog n_deflate_packer_stored [.agg [.op 1000 0 0], .sl nl none (b.map u8)] [.row false (wrR 0 0 0), .row true []] (.tup [])
     [(1000, 0, .row false (wrR 2251 m' (8 * m'))), (1001, 2251, .row (nl0 m') ((stL b).map u8))] 2253 := by
 refine HCon.of' mix Tryz.func20 rfl Tryz.ntmps20 e_deflate_packer_stored r_deflate_packer_stored (by simp) (by simp only [AV.gl, AV.gl.glL, and_true, true_and]; exact ⟨by omega, glL_of_free _ _ free_u8⟩) (wr_gl (b := [])) ?_
 unfold s_deflate_packer_stored
 obtain ⟨n, hn⟩ : ∃ n, n = b.length := ⟨_, rfl⟩
 obtain ⟨Q, hQ⟩ : ∃ Q, Q = (n - 1) / 65535 := ⟨_, rfl⟩
 have hstL : stL b = stK b Q ++ blkS 1 (b.drop (65535 * Q)) := by rw [stL, ← hn, ← hQ]
 repeat (first | refine zS ?_ | exact zT)
 refine SWp.loop (α := Nat × Nat × Nat) (fun x => mk 16 x.2.2 [(1, .sl nl none ((b.drop (65535 * x.1)).map u8)), (2, .op 2 1 0)] [(2, 1, .row false [.op 1000 0 0]), (1000, 0, .row false (wrR x.2.1 (65540 * x.1) (8 * (65540 * x.1)))), (1001, x.2.1, .row (nl0 (65540 * x.1)) ((stK b x.1).map u8))])
   (fun x => x.1 ≤ Q ∧ x.2.2 ≤ 2 + 252 * x.1) (fun x => Q - x.1) (0, 0, 2) ⟨Nat.zero_le _, by simp⟩ (le_mk rfl ?_ ?_ ?_) ?_
 · exact Nat.le_refl _
 iterate 2 (case _ => (first | exact yU (ja4 @wrR.eq_1 @stK.eq_1 @stK.eq_2 @nl0_zero) | refine yR (ja4 @wrR.eq_1 @stK.eq_1 @stK.eq_2 @nl0_zero) ?_))
 rintro ⟨k, g, gc⟩ ⟨hk, hgc⟩ -
 simp only at hk hgc
 obtain ⟨r, hr⟩ : ∃ r, r = b.drop (65535 * k) := ⟨_, rfl⟩
 have hrl : r.length = n - 65535 * k := by rw [hr, List.length_drop, hn]
 have hkn : 65535 * k ≤ n := by omega
 have hkl : (stK b k).length = 65540 * k := length_stK (by omega)
 obtain ⟨X, hX⟩ : ∃ X, X = stK b k := ⟨_, rfl⟩
 obtain ⟨m, hm⟩ : ∃ m, m = 65540 * k := ⟨_, rfl⟩
 rw [← hX, ← hm] at hkl
 simp only [← hr, ← hX, ← hm]
 by_cases ck : 65535 < r.length
 · have dk : decide ((65535 : Int) < (r.length : Int)) = true := decide_eq_true (by omega)
   have p1 := packer_storedBlock_h X (by omega) 0 (by omega) nl (r.take 65535) (by rw [List.length_take]; omega) (8 * m) m (m + 65540) hkl.symm rfl (by rw [List.length_take]; omega)
   have hs1 : X ++ blkS 0 (r.take 65535) = stK b (k + 1) := by rw [stK, ← hX, ← hr]
   rw [hs1] at p1
   have hd : r.drop 65535 = b.drop (65535 * (k + 1)) := by rw [hr, List.drop_drop]; congr 1
   have hm1 : 65540 * (k + 1) = m + 65540 := by omega
   repeat (first | refine zR (ja2 @List.length_map.{0, 0} @dk) ?_ | exact zU (ja2 @List.length_map.{0, 0} @dk))
   refine goC_h [(1000, 0), (1001, g)] 2000 p1 (by simp) (by simp) ?_ ?_ ?_
   iterate 2 (case _ => (first | exact yU @wrR.eq_1 | refine yR @wrR.eq_1 ?_))
   repeat (first | refine zR (ja3 @wrR.eq_1 iR @List.length_map.{0, 0}) ?_ | exact zU (ja3 @wrR.eq_1 iR @List.length_map.{0, 0}))
   refine At.of (k + 1, gc + 250, gc + 252) ⟨by simp only; omega, by simp only; omega⟩ (by simp only; omega) rfl rfl (Nat.le_refl _) ?_ ?_
   iterate 2 (case _ => (first | exact yU (ja3 @hd @wrR.eq_1 @hm1) | refine yR (ja3 @hd @wrR.eq_1 @hm1) ?_))
 · have dk : decide ((65535 : Int) < (r.length : Int)) = false := decide_eq_false (by omega)
   obtain rfl : k = Q := by omega
   have p1 := packer_storedBlock_h X (by omega) 1 (by omega) nl r (by omega) (8 * m) m m' hkl.symm rfl (by rw [hm', hstL, ← hX, ← hr, List.length_append, length_blkS]; omega)
   rw [hr, hX, ← hstL, ← hX, ← hr] at p1
   iterate 5 (first | refine zR (ja2 @List.length_map.{0, 0} @dk) ?_ | exact zU (ja2 @List.length_map.{0, 0} @dk))
   refine SWp.le (le_mk (N := 16) (gc := 2000) (l := [(1, .sl nl none (r.map u8)), (2, .op 2 1 0)]) (h := [(2, 1, .row false [.op 1000 0 0]), (1000, 0, .row false (wrR g m (8 * m))), (1001, g, .row (nl0 m) (X.map u8))]) rfl ?_ ?_ ?_) ?_
   · (first | exact yT | refine yS ?_)
     omega
   iterate 2 (case _ => (first | exact yT | refine yS ?_))
   refine SWp.renew 1001 g (o := .row (nl0 m) (X.map u8)) (by (first | exact yT | refine yS ?_)) ?_
   refine SWp.le (le_mk (N := 16) (gc := 2001) (l := [(1, .sl nl none (r.map u8)), (2, .op 2 1 0)]) (h := [(2, 1, .row false [.op 1000 0 0]), (1000, 0, .row false (wrR 2000 m (8 * m))), (1001, 2000, .row (nl0 m) (X.map u8))]) rfl ?_ ?_ ?_) ?_
   iterate 3 (case _ => (first | exact yU (ja3 @rgn_eq @wrR.eq_1 @rgH_at) | refine yR (ja3 @rgn_eq @wrR.eq_1 @rgH_at) ?_))
   repeat (first | refine zR @List.length_map.{0, 0} ?_ | exact zU @List.length_map.{0, 0})
   refine goC_h [(1000, 0), (1001, 2000)] 3000 p1 (by simp) (by simp) ?_ ?_ ?_
   iterate 2 (case _ => (first | exact yU @wrR.eq_1 | refine yR @wrR.eq_1 ?_))
   repeat (first | refine zR (ja2 @wrR.eq_1 iR) ?_ | exact zU (ja2 @wrR.eq_1 iR))
end Go.Proofs.YtbcncdpaigljeaaGreatDoor.Aw
namespace Go.Proofs.YtbcncdpaigljeaaGreatDoor.Aw
open Go
set_option linter.unusedSimpArgs false
set_option linter.unusedVariables false
def fixB (P : List (Nat × Nat)) : List Nat := digB 1 1 ++ digB 1 2 ++ pcsB fxL fxD P
theorem fx_len : 286 ≤ fxL.length ∧ 30 ≤ fxD.length := by decide +kernel
set_option maxHeartbeats 1000000 in
set_option maxRecDepth 100000 in
theorem packer_fixed_h [Tabs Tryz.prog] (L : List Nat) (hl : L.length ≤ 200000) (hL : ∀ x ∈ L, x < 2) (nl : Bool) (P : List (Nat × Nat)) (hP : P.length ≤ 20000) (hok : ∀ p ∈ P, pcOk p) (i m : Nat) (hi : i = L.length) (hm : m = (L.length + 7) / 8) (j : Nat) (hj : j = (L ++ fixB P).length) :
   HCon Tryz.prog n_deflate_packer_fixed [.agg [.op 1000 0 0], .sl nl (some 2) (P.map pcA)] [.row false (wrR 0 m i), .row (nl0 m) ((bytesB L).map u8)] (.tup [])
     [(1000, 0, .row false (wrR (126 + (KE + 1)) ((j + 7) / 8) j)), (1001, 126 + (KE + 1), .row (nl0 ((j + 7) / 8)) ((bytesB (L ++ fixB P)).map u8))] (126 + (KE + 2)) := by
 refine HCon.of' mix Tryz.func21 rfl Tryz.ntmps21 e_deflate_packer_fixed r_deflate_packer_fixed (by simp) ?_ wr_gl ?_
 · simp only [AV.gl.glL, AV.gl, and_true, true_and]
   exact ⟨by omega, glL_of_free _ _ free_pcs⟩
 unfold s_deflate_packer_fixed
 obtain ⟨X, hX⟩ : ∃ X, X = L ++ (digB 1 1 ++ digB 1 2) := ⟨_, rfl⟩
 obtain ⟨Y, hY⟩ : ∃ Y, Y = L ++ fixB P := ⟨_, rfl⟩
 have hXl : X.length = i + 1 + 2 := by rw [hX, List.length_append, List.length_append, length_digB, length_digB, hi]
 have hX2 : ∀ x ∈ X, x < 2 := fun x hx => by
   rw [hX] at hx
   rcases List.mem_append.1 hx with hx | hx
   · exact hL x hx
   · rcases List.mem_append.1 hx with hx | hx <;> exact digB_lt x hx
 have hYe : X ++ pcsB fxL fxD P = Y := by rw [hX, hY, fixB]; simp [List.append_assoc]
 have p1 := packer_begin_h L (by omega) hL 1 1 (by omega) (by omega) i m hi hm
 have p2 := packer_pieces_h X (by omega) hX2 nl P hP hok fxL fxD fxL_ok fxD_ok fx_len.1 fx_len.2 (i + 1 + 2) ((i + 1 + 2 + 7) / 8) hXl.symm (by rw [hXl]) j (by rw [hYe, hj, hY])
 have pf := fixedCodes_c
 rw [hYe] at p2
 rw [← hY]
 rw [← hX] at p1
 have hrF : ∀ ρ, ren ρ (cdsA fxL fxD) = cdsA fxL fxD := fun ρ => ren_free ρ _ free_cdsA
 obtain ⟨F, hF⟩ : ∃ F, F = cdsA fxL fxD := ⟨_, rfl⟩
 rw [← hF] at p2 pf hrF
 obtain ⟨A, hA⟩ : ∃ A, A = P.map pcA := ⟨_, rfl⟩
 have hrA : ∀ ρ, ren.renL ρ A = A := fun ρ => by rw [hA]; exact renL_free ρ _ free_pcs
 rw [← hA] at p2 ⊢
 repeat (first | refine zS ?_ | exact zT)
 refine goC_h [(1000, 0), (1001, 0)] 2000 p1 (by simp) (by simp) ?_ ?_ ?_
 iterate 2 (case _ => (first | exact yU (ja2 @wrR.eq_1 iR) | refine yR (ja2 @wrR.eq_1 iR) ?_))
 repeat (first | refine zR (ja2 @wrR.eq_1 iR) ?_ | exact zU (ja2 @wrR.eq_1 iR))
 refine goC_p _ (.inl ⟨rfl, pf⟩) ?_
 repeat (first | refine zR (ja2 @wrR.eq_1 iR) ?_ | exact zU (ja2 @wrR.eq_1 iR))
 refine goC_h [(1000, 0), (1001, 125)] 3000 p2 (by simp) (by simp) ?_ ?_ ?_
 iterate 2 (case _ => (first | exact yU (ja4 @wrR.eq_1 iR @hrF @hrA) | refine yR (ja4 @wrR.eq_1 iR @hrF @hrA) ?_))
 repeat (first | refine zR (ja2 @wrR.eq_1 iR) ?_ | exact zU (ja2 @wrR.eq_1 iR))
end Go.Proofs.YtbcncdpaigljeaaGreatDoor.Aw
namespace Go.Proofs.YtbcncdpaigljeaaGreatDoor.Aw
open Go
set_option linter.unusedSimpArgs false
set_option linter.unusedVariables false
def cutN (l : List Nat) (q : Nat) : Nat → Nat
 | 0 => 0
 | n + 1 => if q < n + 1 ∧ l.getD n 0 = 0 then cutN l q n else n + 1
def cutM (l : List Nat) (q : Nat) : List Nat := l.take (cutN l q l.length)
theorem cutN_le {l : List Nat} {q : Nat} : ∀ {n : Nat}, cutN l q n ≤ n
 | 0 => Nat.le_refl _
 | n + 1 => by
   rw [cutN]
   split
   · have := cutN_le (l := l) (q := q) (n := n); omega
   · exact Nat.le_refl _
theorem cutN_ge {l : List Nat} {q : Nat} : ∀ {n : Nat}, q ≤ n → q ≤ cutN l q n
 | 0, h => by rw [cutN]; exact h
 | n + 1, h => by
   rw [cutN]
   split
   · rename_i c; exact cutN_ge (by omega)
   · exact h
set_option maxRecDepth 100000 in
theorem cut_c [Tabs Tryz.prog] (nl : Bool) (l : List Nat) (hl : l.length ≤ 1000) (q : Nat) (hq : q ≤ 1000) : Con Tryz.prog n_deflate_cut [.sl nl none (l.map nA), .sc (.int .i64 (q : Int))] (.sl nl none ((cutM l q).map nA)) := by
 refine Con.of' mix Tryz.func93 rfl Tryz.ntmps93 e_deflate_cut r_deflate_cut (by simp) (by simp only [AV.free, AV.free.freeL, free_nA, Bool.and_self]) (by simp only [AV.free, free_nA]) ?_
 unfold s_deflate_cut
 obtain ⟨r, hr⟩ : ∃ r, r = cutN l q l.length := ⟨_, rfl⟩
 have hrl : r ≤ l.length := by rw [hr]; exact cutN_le
 have hM : (cutM l q).map nA = (l.map nA).take r := by rw [cutM, ← hr, take_nA]
 rw [hM]
 repeat (first | refine zR @List.length_map.{0, 0} ?_ | exact zU @List.length_map.{0, 0})
 refine SWp.loop (α := Nat) (fun n => mk 24 0 [(0, .sl nl none (l.map nA)), (1, .sc (.int .i64 (q : Int))), (5, int n)] [])
   (fun n => n ≤ l.length ∧ r = cutN l q n) (fun n => n) l.length ⟨Nat.le_refl _, hr⟩ (le_mk rfl ?_ ?_ ?_) ?_
 · exact Nat.le_refl _
 iterate 2 (case _ => (first | exact yT | refine yS ?_))
 rintro n ⟨hn, hrn⟩ -
 by_cases c1 : q < n
 · have d1 : decide ((q : Int) < (n : Int)) = true := decide_eq_true (by omega)
   obtain ⟨k, rfl⟩ : ∃ k, n = k + 1 := ⟨n - 1, by omega⟩
   have ek : ((k + 1 : Nat) : Int) - 1 = (k : Int) := by omega
   have hg : (l.map nA).getD k .junk = .sc (.int .i64 (l.getD k 0 : Int)) := getD_nA (by omega)
   rw [cutN] at hrn
   obtain ⟨n1, hn1⟩ : ∃ x, x = k + 1 := ⟨_, rfl⟩
   rw [← hn1] at d1 ek ⊢
   by_cases c2 : l.getD k 0 = 0
   · have d2 : decide ((l.getD k 0 : Int) = 0) = true := decide_eq_true (by omega)
     rw [if_pos ⟨c1, c2⟩] at hrn
     repeat (first | refine zR (ja5 @d1 @ek @hg @d2 @List.length_map.{0, 0}) ?_ | exact zU (ja5 @d1 @ek @hg @d2 @List.length_map.{0, 0}))
     refine At.of k ⟨by omega, hrn⟩ (by omega) rfl rfl (Nat.le_refl _) ?_ ?_
     iterate 2 (case _ => (first | exact yT | refine yS ?_))
   · have d2 : decide ((l.getD k 0 : Int) = 0) = false := decide_eq_false (by omega)
     rw [if_neg (fun h => c2 h.2), ← hn1] at hrn
     repeat (first | refine zR (ja6 @d1 @ek @hg @d2 @List.length_map.{0, 0} @hrn) ?_ | exact zU (ja6 @d1 @ek @hg @d2 @List.length_map.{0, 0} @hrn))
 · have d1 : decide ((q : Int) < (n : Int)) = false := decide_eq_false (by omega)
   have hrn' : r = n := by
     rw [hrn]
     cases n with
     | zero => rfl
     | succ k => rw [cutN, if_neg (fun h => c1 h.1)]
   repeat (first | refine zR (ja3 @d1 @List.length_map.{0, 0} @hrn') ?_ | exact zU (ja3 @d1 @List.length_map.{0, 0} @hrn'))
def sameN (l : List Nat) (a : Nat) : Nat → Nat → Nat
 | 0, n => n
 | f + 1, n => if a + n < l.length ∧ l.getD (a + n) 0 = l.getD a 0 then sameN l a f (n + 1) else n
theorem sameN_facts {l : List Nat} {a : Nat} : ∀ {f n : Nat}, n ≤ sameN l a f n ∧ (a + n ≤ l.length → a + sameN l a f n ≤ l.length) ∧ ∀ i, n ≤ i → i < sameN l a f n → l.getD (a + i) 0 = l.getD a 0
 | 0, n => ⟨Nat.le_refl _, fun h => h, fun i h1 h2 => by rw [sameN] at h2; omega⟩
 | f + 1, n => by
   rw [sameN]
   split
   · rename_i c
     obtain ⟨h1, h2, h3⟩ := sameN_facts (l := l) (a := a) (f := f) (n := n + 1)
     refine ⟨by omega, fun _ => h2 (by omega), fun i hi hi2 => ?_⟩
     by_cases e : i = n
     · rw [e]; exact c.2
     · exact h3 i (by omega) hi2
   · exact ⟨Nat.le_refl _, fun h => h, fun i h1 h2 => by omega⟩
def tlN (l : List Nat) (a : Nat) : Nat := sameN l a l.length 1
def tlA (l : List Nat) (a : Nat) : (Nat × Nat × Nat) × Nat :=
 if l.getD a 0 = 0 ∧ 11 ≤ tlN l a then ((18, min (tlN l a) 138 - 11, 7), min (tlN l a) 138)
 else if l.getD a 0 = 0 ∧ 3 ≤ tlN l a then ((17, min (tlN l a) 10 - 3, 3), min (tlN l a) 10)
 else if 0 < a ∧ l.getD a 0 = l.getD (a - 1) 0 ∧ 3 ≤ tlN l a then ((16, min (tlN l a) 6 - 3, 2), min (tlN l a) 6)
 else ((l.getD a 0, 0, 0), 1)
def tlV (x : (Nat × Nat × Nat) × Nat) : AV := .tup [syA x.1, .sc (.int .i64 (x.2 : Int))]
set_option maxHeartbeats 1000000 in
set_option maxRecDepth 100000 in
theorem tellAt_c [Tabs Tryz.prog] (nl : Bool) (l : List Nat) (hl : l.length ≤ 1000) (h15 : ∀ x ∈ l, x ≤ 15) (a : Nat) (ha : a < l.length) : Con Tryz.prog n_deflate_tellAt [.sl nl none (l.map nA), .sc (.int .i64 (a : Int))] (tlV (tlA l a)) := by
 refine Con.of' mix Tryz.func131 rfl Tryz.ntmps131 e_deflate_tellAt r_deflate_tellAt (by simp) (by simp only [AV.free, AV.free.freeL, free_nA, Bool.and_self]) rfl ?_
 unfold s_deflate_tellAt
 obtain ⟨R, hR⟩ : ∃ R, R = tlN l a := ⟨_, rfl⟩
 have hf := sameN_facts (l := l) (a := a) (f := l.length) (n := 1)
 rw [← tlN, ← hR] at hf
 obtain ⟨hf1, hf2, -⟩ := hf
 have hf2 := hf2 (by omega)
 obtain ⟨x, hx⟩ : ∃ x, x = l.getD a 0 := ⟨_, rfl⟩
 have hgx : (l.map nA).getD a .junk = .sc (.int .i64 (x : Int)) := by rw [hx]; exact getD_nA ha
 have hO : tlA l a = if x = 0 ∧ 11 ≤ R then ((18, min R 138 - 11, 7), min R 138) else if x = 0 ∧ 3 ≤ R then ((17, min R 10 - 3, 3), min R 10) else if 0 < a ∧ x = l.getD (a - 1) 0 ∧ 3 ≤ R then ((16, min R 6 - 3, 2), min R 6) else ((x, 0, 0), 1) := by rw [tlA, ← hx, ← hR]
 rw [hO]
 repeat (first | refine zS ?_ | exact zT)
 refine SWp.loop (α := Nat) (fun n => mk 90 1 [(0, .sl nl none (l.map nA)), (1, .sc (.int .i64 (a : Int))), (4, .op 4 0 0), (6, int n)] [(4, 0, .row false [int 0, int 0, int 0])])
   (fun n => 1 ≤ n ∧ n ≤ 1000 ∧ a + n ≤ l.length ∧ ∃ f, l.length ≤ a + n + f ∧ R = sameN l a f n) (fun n => l.length - n) 1 ⟨Nat.le_refl _, by omega, by omega, l.length, by omega, hR⟩ (le_mk rfl ?_ ?_ ?_) ?_
 · exact Nat.le_refl _
 iterate 2 (case _ => (first | exact yU iR | refine yR iR ?_))
 rintro n ⟨hn1, hn2, hn3, f, hf3, hRf⟩ -
 obtain ⟨t, ht⟩ : ∃ t, t = a + n := ⟨_, rfl⟩
 have et : (a : Int) + (n : Int) = (t : Int) := by omega
 by_cases c0 : t < l.length ∧ l.getD t 0 = x
 · obtain ⟨c1, c2⟩ := c0
   have d1 : decide ((t : Int) < (l.length : Int)) = true := decide_eq_true (by omega)
   have hg : (l.map nA).getD t .junk = .sc (.int .i64 (l.getD t 0 : Int)) := getD_nA (by omega)
   obtain ⟨f, rfl⟩ : ∃ k, f = k + 1 := ⟨f - 1, by omega⟩
   rw [sameN, ← ht, c2, ← hx, if_pos ⟨c1, rfl⟩] at hRf
   rw [c2] at hg
   repeat (first | refine zR (ja5 @et @d1 @hg @hgx @List.length_map.{0, 0}) ?_ | exact zU (ja5 @et @d1 @hg @hgx @List.length_map.{0, 0}))
   refine At.of (n + 1) ⟨by omega, by omega, by omega, f, by omega, hRf⟩ (by omega) rfl rfl (Nat.le_refl _) ?_ ?_
   iterate 2 (case _ => (first | exact yU iR | refine yR iR ?_))
 have hRn : R = n := by
   rw [hRf]
   cases f with
   | zero => rfl
   | succ f => rw [sameN, ← ht, ← hx, if_neg c0]
 subst hRn
 clear hO hR
 have hla : (a : Int) < (l.length : Int) := Int.ofNat_lt.2 ha
 by_cases c1 : t < l.length
 have d1 : decide ((t : Int) < (l.length : Int)) = true := decide_eq_true (by omega)
 have hg : (l.map nA).getD t .junk = .sc (.int .i64 (l.getD t 0 : Int)) := getD_nA (by omega)
 obtain ⟨y, hy⟩ : ∃ y, y = l.getD t 0 := ⟨_, rfl⟩
 rw [← hy] at hg
 have d2 : decide ((y : Int) = (x : Int)) = false := decide_eq_false (fun h => c0 ⟨c1, by omega⟩)
 iterate 5 (first | refine zR (ja7 @et @d1 @hg @hgx @d2 @hla @List.length_map.{0, 0}) ?_ | exact zU (ja7 @et @d1 @hg @hgx @d2 @hla @List.length_map.{0, 0}))
 refine SWp.le (le_mk (N := 90) (gc := 1) (l := [(0, .sl nl none (l.map nA)), (1, .sc (.int .i64 (a : Int))), (4, .op 4 0 0), (6, int R)]) (h := [(4, 0, .row false [int 0, int 0, int 0])]) rfl ?_ ?_ ?_) ?_
 iterate 3 (case _ => (first | exact yU iR | refine yR iR ?_))
 rotate_left
 have d1 : decide ((t : Int) < (l.length : Int)) = false := decide_eq_false (by omega)
 iterate 4 (first | refine zR (ja3 @et @d1 @List.length_map.{0, 0}) ?_ | exact zU (ja3 @et @d1 @List.length_map.{0, 0}))
 refine SWp.le (le_mk (N := 90) (gc := 1) (l := [(0, .sl nl none (l.map nA)), (1, .sc (.int .i64 (a : Int))), (4, .op 4 0 0), (6, int R)]) (h := [(4, 0, .row false [int 0, int 0, int 0])]) rfl ?_ ?_ ?_) ?_
 iterate 3 (case _ => (first | exact yU iR | refine yR iR ?_))
 all_goals
   clear d1
   have m1 : (if (138 : Int) < (R : Int) then 138 else (R : Int)) = ((min R 138 : Nat) : Int) := by split <;> omega
   have m2 : (if (10 : Int) < (R : Int) then 10 else (R : Int)) = ((min R 10 : Nat) : Int) := by split <;> omega
   have m3 : (if (6 : Int) < (R : Int) then 6 else (R : Int)) = ((min R 6 : Nat) : Int) := by split <;> omega
   by_cases x0 : x = 0
   · have e1 : decide ((x : Int) = 0) = true := decide_eq_true (by omega)
     by_cases r1 : 11 ≤ R
     · have e2 : decide ((11 : Int) ≤ (R : Int)) = true := decide_eq_true (by omega)
       obtain ⟨u, hu⟩ : ∃ u, u = min R 138 := ⟨_, rfl⟩
       rw [← hu] at m1
       have eu : (u : Int) - 11 = ((u - 11 : Nat) : Int) := by omega
       rw [if_pos (show x = 0 ∧ 11 ≤ R from ⟨x0, r1⟩), ← hu]
       repeat (first | refine zR (ja8 @hgx @e1 @e2 @m1 @eu @tlV.eq_1 @syA.eq_1 (ja2 iR @List.length_map.{0, 0})) ?_ | exact zU (ja8 @hgx @e1 @e2 @m1 @eu @tlV.eq_1 @syA.eq_1 (ja2 iR @List.length_map.{0, 0})))
     have e2 : decide ((11 : Int) ≤ (R : Int)) = false := decide_eq_false (by omega)
     rw [if_neg (show ¬(x = 0 ∧ 11 ≤ R) from fun h => r1 h.2)]
     by_cases r2 : 3 ≤ R
     · have e3 : decide ((3 : Int) ≤ (R : Int)) = true := decide_eq_true (by omega)
       rw [show min R 10 = R by omega] at m2
       have eu : (R : Int) - 3 = ((R - 3 : Nat) : Int) := by omega
       rw [if_pos (show x = 0 ∧ 3 ≤ R from ⟨x0, r2⟩)]
       repeat (first | refine zR (ja8 @hgx @e1 @e2 @e3 @m2 @eu @tlV.eq_1 (ja3 @syA.eq_1 iR @List.length_map.{0, 0})) ?_ | exact zU (ja8 @hgx @e1 @e2 @e3 @m2 @eu @tlV.eq_1 (ja3 @syA.eq_1 iR @List.length_map.{0, 0})))
     have e3 : decide ((3 : Int) ≤ (R : Int)) = false := decide_eq_false (by omega)
     rw [if_neg (show ¬(x = 0 ∧ 3 ≤ R) from fun h => r2 h.2), if_neg (show ¬(0 < a ∧ x = l.getD (a - 1) 0 ∧ 3 ≤ R) from fun h => r2 h.2.2)]
     by_cases a0 : 0 < a
     · have e4 : decide ((0 : Int) < (a : Int)) = true := decide_eq_true (by omega)
       obtain ⟨w, hw⟩ : ∃ w, w = a - 1 := ⟨_, rfl⟩
       have ew : (a : Int) - 1 = (w : Int) := by omega
       have hgw : (l.map nA).getD w .junk = .sc (.int .i64 (l.getD w 0 : Int)) := getD_nA (by omega)
       obtain ⟨v, hv⟩ : ∃ v, v = l.getD w 0 := ⟨_, rfl⟩
       rw [← hv] at hgw
       by_cases v0 : x = v
       · have e5 : decide ((x : Int) = (v : Int)) = true := decide_eq_true (by omega)
         repeat (first | refine zR (ja8 @hgx @hgw @e1 @e2 @e3 @e4 @e5 (ja5 @ew @tlV.eq_1 @syA.eq_1 iR @List.length_map.{0, 0})) ?_ | exact zU (ja8 @hgx @hgw @e1 @e2 @e3 @e4 @e5 (ja5 @ew @tlV.eq_1 @syA.eq_1 iR @List.length_map.{0, 0})))
       · have e5 : decide ((x : Int) = (v : Int)) = false := decide_eq_false (by omega)
         repeat (first | refine zR (ja8 @hgx @hgw @e1 @e2 @e3 @e4 @e5 (ja5 @ew @tlV.eq_1 @syA.eq_1 iR @List.length_map.{0, 0})) ?_ | exact zU (ja8 @hgx @hgw @e1 @e2 @e3 @e4 @e5 (ja5 @ew @tlV.eq_1 @syA.eq_1 iR @List.length_map.{0, 0})))
     · have e4 : decide ((0 : Int) < (a : Int)) = false := decide_eq_false (by omega)
       repeat (first | refine zR (ja8 @hgx @e1 @e2 @e3 @e4 @tlV.eq_1 @syA.eq_1 (ja2 iR @List.length_map.{0, 0})) ?_ | exact zU (ja8 @hgx @e1 @e2 @e3 @e4 @tlV.eq_1 @syA.eq_1 (ja2 iR @List.length_map.{0, 0})))
   have e1 : decide ((x : Int) = 0) = false := decide_eq_false (by omega)
   rw [if_neg (show ¬(x = 0 ∧ 11 ≤ R) from fun h => x0 h.1), if_neg (show ¬(x = 0 ∧ 3 ≤ R) from fun h => x0 h.1)]
   by_cases a0 : 0 < a
   · have e4 : decide ((0 : Int) < (a : Int)) = true := decide_eq_true (by omega)
     obtain ⟨w, hw⟩ : ∃ w, w = a - 1 := ⟨_, rfl⟩
     have ew : (a : Int) - 1 = (w : Int) := by omega
     have hgw : (l.map nA).getD w .junk = .sc (.int .i64 (l.getD w 0 : Int)) := getD_nA (by omega)
     obtain ⟨v, hv⟩ : ∃ v, v = l.getD w 0 := ⟨_, rfl⟩
     rw [← hv] at hgw
     rw [← hw, ← hv]
     by_cases v0 : x = v
     · have e5 : decide ((x : Int) = (v : Int)) = true := decide_eq_true (by omega)
       by_cases r2 : 3 ≤ R
       · have e3 : decide ((3 : Int) ≤ (R : Int)) = true := decide_eq_true (by omega)
         obtain ⟨u, hu⟩ : ∃ u, u = min R 6 := ⟨_, rfl⟩
         rw [← hu] at m3
         have eu : (u : Int) - 3 = ((u - 3 : Nat) : Int) := by omega
         rw [if_pos (show 0 < a ∧ x = v ∧ 3 ≤ R from ⟨a0, v0, r2⟩), ← hu]
         repeat (first | refine zR (ja8 @hgx @hgw @e1 @e3 @e4 @e5 @m3 (ja6 @eu @ew @tlV.eq_1 @syA.eq_1 iR @List.length_map.{0, 0})) ?_ | exact zU (ja8 @hgx @hgw @e1 @e3 @e4 @e5 @m3 (ja6 @eu @ew @tlV.eq_1 @syA.eq_1 iR @List.length_map.{0, 0})))
       · have e3 : decide ((3 : Int) ≤ (R : Int)) = false := decide_eq_false (by omega)
         rw [if_neg (show ¬(0 < a ∧ x = v ∧ 3 ≤ R) from fun h => r2 h.2.2)]
         repeat (first | refine zR (ja8 @hgx @hgw @e1 @e3 @e4 @e5 @ew (ja4 @tlV.eq_1 @syA.eq_1 iR @List.length_map.{0, 0})) ?_ | exact zU (ja8 @hgx @hgw @e1 @e3 @e4 @e5 @ew (ja4 @tlV.eq_1 @syA.eq_1 iR @List.length_map.{0, 0})))
     · have e5 : decide ((x : Int) = (v : Int)) = false := decide_eq_false (by omega)
       rw [if_neg (show ¬(0 < a ∧ x = v ∧ 3 ≤ R) from fun h => v0 h.2.1)]
       repeat (first | refine zR (ja8 @hgx @hgw @e1 @e4 @e5 @ew @tlV.eq_1 (ja3 @syA.eq_1 iR @List.length_map.{0, 0})) ?_ | exact zU (ja8 @hgx @hgw @e1 @e4 @e5 @ew @tlV.eq_1 (ja3 @syA.eq_1 iR @List.length_map.{0, 0})))
   · have e4 : decide ((0 : Int) < (a : Int)) = false := decide_eq_false (by omega)
     rw [if_neg (show ¬(0 < a ∧ x = l.getD (a - 1) 0 ∧ 3 ≤ R) from fun h => a0 h.1)]
     repeat (first | refine zR (ja7 @hgx @e1 @e4 @tlV.eq_1 @syA.eq_1 iR @List.length_map.{0, 0}) ?_ | exact zU (ja7 @hgx @e1 @e4 @tlV.eq_1 @syA.eq_1 iR @List.length_map.{0, 0}))
end Go.Proofs.YtbcncdpaigljeaaGreatDoor.Aw
namespace Go.Proofs.YtbcncdpaigljeaaGreatDoor.Aw
open Go
set_option linter.unusedSimpArgs false
set_option linter.unusedVariables false
structure TlOk (s : Nat × Nat × Nat) : Prop where
 num : s.1 < 19
 more : s.2.1 ≤ 127
 bits : s.2.2 ≤ 7
theorem tlA_ok {l : List Nat} (h15 : ∀ x ∈ l, x ≤ 15) {a : Nat} (ha : a < l.length) : TlOk (tlA l a).1 ∧ 1 ≤ (tlA l a).2 ∧ a + (tlA l a).2 ≤ l.length := by
 obtain ⟨h1, h2, -⟩ := sameN_facts (l := l) (a := a) (f := l.length) (n := 1)
 rw [← tlN] at h1 h2
 have h2 := h2 (by omega)
 have hx := getD_le h15 ha
 unfold tlA
 split
 · exact ⟨⟨by simp only; omega, by simp only; omega, by simp only; omega⟩, by simp only; omega, by simp only; omega⟩
 split
 · exact ⟨⟨by simp only; omega, by simp only; omega, by simp only; omega⟩, by simp only; omega, by simp only; omega⟩
 split
 · exact ⟨⟨by simp only; omega, by simp only; omega, by simp only; omega⟩, by simp only; omega, by simp only; omega⟩
 · exact ⟨⟨by simp only; omega, by simp only; omega, by simp only; omega⟩, by simp only; omega, by simp only; omega⟩
def tlsM (l : List Nat) : Nat → Nat → List (Nat × Nat × Nat) → List (Nat × Nat × Nat)
 | 0, _, T => T
 | f + 1, a, T => if a < l.length then tlsM l f (a + (tlA l a).2) (T ++ [(tlA l a).1]) else T
def tls (l : List Nat) : List (Nat × Nat × Nat) := tlsM l l.length 0 []
theorem tlsM_ok {l : List Nat} (h15 : ∀ x ∈ l, x ≤ 15) : ∀ {f a : Nat} {T : List (Nat × Nat × Nat)}, (∀ s ∈ T, TlOk s) → T.length ≤ a → a ≤ l.length → (∀ s ∈ tlsM l f a T, TlOk s) ∧ (tlsM l f a T).length ≤ l.length
 | 0, a, T, h, h1, h2 => ⟨h, by rw [tlsM]; omega⟩
 | f + 1, a, T, h, h1, h2 => by
   rw [tlsM]
   split
   · rename_i c
     obtain ⟨o1, o2, o3⟩ := tlA_ok h15 c
     refine tlsM_ok h15 (fun s hs => ?_) (by rw [List.length_append, List.length_singleton]; omega) (by omega)
     rcases List.mem_append.1 hs with hs | hs
     · exact h s hs
     · rw [List.mem_singleton] at hs; rw [hs]; exact o1
   · exact ⟨h, by omega⟩
theorem tls_ok {l : List Nat} (h15 : ∀ x ∈ l, x ≤ 15) : (∀ s ∈ tls l, TlOk s) ∧ (tls l).length ≤ l.length := tlsM_ok h15 (by simp) (by simp) (Nat.zero_le _)
def syC (l : List (Nat × Nat × Nat)) : List AV := l.flatMap fun s => [.sc (.int .i64 (s.1 : Int)), .sc (.int .i64 (s.2.1 : Int)), .sc (.int .i64 (s.2.2 : Int))]
theorem syC_append {a b : List (Nat × Nat × Nat)} : syC (a ++ b) = syC a ++ syC b := by simp [syC]
theorem length_syC : ∀ {l : List (Nat × Nat × Nat)}, (syC l).length = l.length * 3
 | [] => rfl
 | p :: l => by rw [show syC (p :: l) = [.sc (.int .i64 (p.1 : Int)), .sc (.int .i64 (p.2.1 : Int)), .sc (.int .i64 (p.2.2 : Int))] ++ syC l from rfl, List.length_append, length_syC]; simp; omega
theorem chunks_syC {l : List (Nat × Nat × Nat)} : chunks (some 3) l.length (syC l) = l.map syA := by
 have h := chunks_flat (es := some 3) (l.map syA) (fun x hx => by
   obtain ⟨p, _, rfl⟩ := List.mem_map.1 hx
   exact ⟨_, rfl, rfl⟩)
 rw [List.length_map, List.flatMap_map] at h
 exact h
theorem free_sys {l : List (Nat × Nat × Nat)} : AV.free.freeL (l.map syA) = true := freeL_iff.2 fun x hx => by
 obtain ⟨p, _, rfl⟩ := List.mem_map.1 hx; rfl
set_option maxHeartbeats 1000000 in
set_option maxRecDepth 100000 in
theorem tellsOf_c [Tabs Tryz.prog] (nl : Bool) (l : List Nat) (hl : l.length ≤ 1000) (h15 : ∀ x ∈ l, x ≤ 15) : Con Tryz.prog n_deflate_tellsOf [.sl nl none (l.map nA)] (.sl (nl0 (tls l).length) (some 3) ((tls l).map syA)) := by
 refine Con.of' mix Tryz.func94 rfl Tryz.ntmps94 e_deflate_tellsOf r_deflate_tellsOf (by simp) (by simp only [AV.free, AV.free.freeL, free_nA, Bool.and_self]) (by simp only [AV.free]; exact free_sys) ?_
 unfold s_deflate_tellsOf
 obtain ⟨R, hR⟩ : ∃ R, R = tls l := ⟨_, rfl⟩
 rw [← hR]
 iterate 4 (first | refine zS ?_ | exact zT)
 refine SWp.adopt 3 (some 3) (by (first | exact yT | refine yS ?_)) ?_
 repeat (first | refine zS ?_ | exact zT)
 refine SWp.loop (α := Nat × List (Nat × Nat × Nat) × Nat × Nat) (fun x => mk 25 x.2.2.2 [(0, .sl nl none (l.map nA)), (3, .own 3 x.2.2.1 (some 3) 0 x.2.1.length), (4, int x.1)] [(3, x.2.2.1, .row (nl0 x.2.1.length) (syC x.2.1))])
   (fun x => x.1 ≤ l.length ∧ x.2.1.length ≤ x.1 ∧ ∃ f, l.length ≤ x.1 + f ∧ R = tlsM l f x.1 x.2.1) (fun x => l.length - x.1) (0, [], 0, 1) ⟨Nat.zero_le _, Nat.zero_le _, l.length, by simp, hR⟩ (le_mk rfl ?_ ?_ ?_) ?_
 · exact Nat.le_refl _
 · (first | exact yT | refine yS ?_)
 · (first | exact yU @nl0_zero | refine yR @nl0_zero ?_)
   try rfl
 rintro ⟨a, T, g, gc⟩ ⟨ha, hT, f, hf, hRf⟩ -
 simp only at ha hT hf hRf
 by_cases c : a < l.length
 · have d : decide ((a : Int) < (l.length : Int)) = true := decide_eq_true (by omega)
   obtain ⟨f, rfl⟩ : ∃ k, f = k + 1 := ⟨f - 1, by omega⟩
   rw [tlsM, if_pos c] at hRf
   obtain ⟨o1, o2, o3⟩ := tlA_ok h15 c
   have tc := tellAt_c nl l hl h15 a c
   obtain ⟨r, hr⟩ : ∃ r, r = tlA l a := ⟨_, rfl⟩
   rw [← hr] at o1 o2 o3 hRf tc
   obtain ⟨⟨u, v, w⟩, n⟩ := r
   simp only [tlV, syA] at o2 o3 hRf tc
   have hfl : List.flatMap (fun x => (cellsA x).getD []) [AV.agg [.sc (.int .i64 (u : Int)), .sc (.int .i64 (v : Int)), .sc (.int .i64 (w : Int))]] = [.sc (.int .i64 (u : Int)), .sc (.int .i64 (v : Int)), .sc (.int .i64 (w : Int))] := rfl
   have hcl : syC T ++ [.sc (.int .i64 (u : Int)), .sc (.int .i64 (v : Int)), .sc (.int .i64 (w : Int))] = syC (T ++ [(u, v, w)]) := by rw [syC_append]; rfl
   have hsl : (syC T).length = T.length * 3 := length_syC
   have hnl : nl0 (T.length + 1) = false := nl0_pos (by omega)
   have hTl : (T ++ [(u, v, w)]).length = T.length + 1 := by simp
   repeat (first | refine zR (ja2 @d @List.length_map.{0, 0}) ?_ | exact zU (ja2 @d @List.length_map.{0, 0}))
   refine goC_p _ (.inl ⟨by simp only [AV.free, AV.free.freeL, free_nA, Bool.and_self], tc⟩) ?_
   repeat (first | refine zS ?_ | exact zT)
   refine ⟨⟨_, rfl, rfl⟩, ⟨fun w hw => ⟨_, List.mem_singleton.1 hw⟩, hsl.symm, by omega, by omega⟩, ?_⟩
   repeat (first | refine zR (ja2 @hfl @hcl) ?_ | exact zU (ja2 @hfl @hcl))
   refine At.of (a + n, T ++ [(u, v, w)], gc + 1, gc + 2) ⟨by simp only; omega, by simp only; rw [hTl]; omega, f, by simp only; omega, hRf⟩ (by simp only; omega) rfl rfl (Nat.le_refl _) ?_ ?_
   iterate 2 (case _ => (first | exact yU (ja2 @hTl @hnl) | refine yR (ja2 @hTl @hnl) ?_))
 · have d : decide ((a : Int) < (l.length : Int)) = false := decide_eq_false (by omega)
   have hRT : R = T := by
     rw [hRf]
     cases f with
     | zero => rfl
     | succ f => rw [tlsM, if_neg c]
   have hcn : chunks (some 3) T.length (syC T) = T.map syA := chunks_syC
   have hsl : (syC T).length = T.length * 3 := length_syC
   rw [hRT]
   repeat (first | refine zR (ja4 @d @List.length_map.{0, 0} @hcn @hsl) ?_ | exact zU (ja4 @d @List.length_map.{0, 0} @hcn @hsl))
end Go.Proofs.YtbcncdpaigljeaaGreatDoor.Aw
namespace Go.Proofs.YtbcncdpaigljeaaGreatDoor.Aw
open Go
set_option linter.unusedSimpArgs false
set_option linter.unusedVariables false
def ctN (n : Nat) (S : List Nat) : List Nat := (List.range n).map fun i => S.count i
theorem length_ctN {n : Nat} {S : List Nat} : (ctN n S).length = n := by simp [ctN]
theorem ctN_get {n u : Nat} {S : List Nat} (h : u < n) : (ctN n S).getD u 0 = S.count u := by simp [ctN, List.getD, h]
theorem ctN_snoc {n u : Nat} {S : List Nat} (h : u < n) : (ctN n S).set u (S.count u + 1) = ctN n (S ++ [u]) := by
 rw [ctN, row_succ (f := fun i => S.count i) h, ctN]
 refine List.map_congr_left fun i _ => ?_
 rw [List.count_append, List.count_singleton]
 by_cases c : i = u
 · subst c; simp
 · simp [c, Ne.symm c]
theorem ctN_ok {n q : Nat} {S : List Nat} (hn : n ≤ 300) (hS : S.length ≤ 100000) (h1 : 1 ≤ q) (h2 : q ≤ 15) (h3 : n ≤ 2 ^ q) : CtOk (ctN n S) q := by
 refine ⟨by rw [length_ctN]; exact hn, fun x hx => ?_, h1, h2, by rw [length_ctN]; exact h3⟩
 obtain ⟨i, _, rfl⟩ := List.mem_map.1 hx
 exact Nat.le_trans List.count_le_length hS
theorem ctN_nil {n : Nat} : ctN n [] = List.replicate n 0 := by
 rw [ctN]
 refine List.ext_getElem (by simp) fun i h1 h2 => by simp
theorem ctN_zeros {n : Nat} : (List.replicate n [AV.sc (.int .i64 0)]).flatten = (ctN n []).map nA := by rw [zerosN, ctN_nil]
def ctT (T : List (Nat × Nat × Nat)) : List Nat := ctN 19 (T.map (·.1))
theorem ctT_ok {T : List (Nat × Nat × Nat)} (h : T.length ≤ 1000) : CtOk (ctT T) 7 := ctN_ok (by omega) (by rw [List.length_map]; omega) (by omega) (by omega) (by omega)
theorem getD_sy {l : List (Nat × Nat × Nat)} {i : Nat} (h : i < l.length) : (l.map syA).getD i .junk = syA (l.getD i (0, 0, 0)) := by simp [List.getD, h]
set_option maxHeartbeats 1000000 in
set_option maxRecDepth 100000 in
theorem bestTeller_c [Tabs Tryz.prog] (nl : Bool) (T : List (Nat × Nat × Nat)) (hT : T.length ≤ 1000) (hok : ∀ s ∈ T, TlOk s) : Con Tryz.prog n_deflate_bestTeller [.sl nl (some 3) (T.map syA)] (cdA false (lensB (ctT T) 7)) := by
 refine Con.of' mix Tryz.func95 rfl Tryz.ntmps95 e_deflate_bestTeller r_deflate_bestTeller (by simp) (by simp only [AV.free, AV.free.freeL, free_sys, Bool.and_self]) free_cdA ?_
 unfold s_deflate_bestTeller
 have bc := bestCode_c false (ctT T) 7 (ctT_ok hT)
 unfold cdA at bc
 obtain ⟨F, hF⟩ : ∃ F, F = lensB (ctT T) 7 := ⟨_, rfl⟩
 rw [← hF] at bc ⊢
 have hz := ctN_zeros (n := 19)
 repeat (first | refine xR (ja2 @hz @List.length_map.{0, 0}) ?_ | exact xU (ja2 @hz @List.length_map.{0, 0}))
 obtain ⟨A, hA⟩ : ∃ A, A = T.map syA := ⟨_, rfl⟩
 have hAl : A.length = T.length := by rw [hA, List.length_map]
 rw [← hA]
 refine SWp.loop (α := Nat × List Nat × Nat) (fun x => mk 23 x.2.2 [(2, .op 2 0 0), (3, .own 6 1 none 0 19), (7, .sl nl (some 3) A), (8, int T.length), (9, int x.1)] [(2, 0, .row false [.sc (.slice none 0 0), .sc (.slice none 0 0)]), (6, 1, .row false (x.2.1.map nA))])
   (fun x => x.1 ≤ T.length ∧ x.2.1 = ctN 19 ((T.take x.1).map (·.1)) ∧ x.2.2 = 2 + x.1) (fun x => T.length - x.1) (0, ctN 19 [], 2) ⟨Nat.zero_le _, by simp, by simp⟩ (le_mk rfl ?_ ?_ ?_) ?_
 · exact Nat.le_refl _
 iterate 2 (case _ => (first | exact vT | refine vS ?_))
 rintro ⟨k, c, gc⟩ ⟨hk, hc, hgc⟩ -
 simp only at hk hc hgc
 have hcl : c.length = 19 := by rw [hc, length_ctN]
 by_cases ck : k < T.length
 · have dk : decide ((k : Int) < (T.length : Int)) = true := decide_eq_true (by omega)
   obtain ⟨s, hs⟩ : ∃ s, s = T.getD k (0, 0, 0) := ⟨_, rfl⟩
   have hsT : s ∈ T := by
     have : T.getD k (0, 0, 0) = T[k] := by simp [List.getD, ck]
     rw [hs, this]; exact List.getElem_mem _
   have hg : A.getD k .junk = .agg [.sc (.int .i64 (s.1 : Int)), .sc (.int .i64 (s.2.1 : Int)), .sc (.int .i64 (s.2.2 : Int))] := by rw [hA, getD_sy ck, ← hs]; rfl
   have htk : (T.take (k + 1)).map (·.1) = (T.take k).map (·.1) ++ [s.1] := by rw [snocD (d := (0, 0, 0)) ck, ← hs, List.map_append]; rfl
   have hu := (hok s hsT).num
   have hsn := ctN_snoc (S := (T.take k).map (·.1)) hu
   rw [← htk, ← hc] at hsn
   have hcv : ((T.take k).map (·.1)).count s.1 ≤ 1000 := Nat.le_trans List.count_le_length (by rw [List.length_map, List.length_take]; omega)
   obtain ⟨u, hue⟩ : ∃ u, u = s.1 := ⟨_, rfl⟩
   obtain ⟨v, hv⟩ : ∃ v, v = ((T.take k).map (·.1)).count s.1 := ⟨_, rfl⟩
   have hgv : (c.map nA).getD u .junk = .sc (.int .i64 (v : Int)) := by rw [getD_nA (by omega), hc, ctN_get (by omega), hv, hue]
   rw [← hv, ← hue] at hsn
   rw [← hv] at hcv
   rw [← hue] at hg hu
   obtain ⟨v1, hv1⟩ : ∃ v1, v1 = v + 1 := ⟨_, rfl⟩
   rw [← hv1] at hsn
   have hev : (v : Int) + 1 = (v1 : Int) := by omega
   have hsp := splice_nA (l := c) (k := u) (x := v1) (by omega)
   rw [hsn] at hsp
   obtain ⟨c2, hc2⟩ : ∃ c2, c2 = ctN 19 ((T.take (k + 1)).map (·.1)) := ⟨_, rfl⟩
   rw [← hc2, ← take_nA, ← drop_nA] at hsp
   repeat (first | refine xR (ja8 @dk @hAl @hg @hgv @hev @hsp @hcl @List.length_map.{0, 0}) ?_ | exact xU (ja8 @dk @hAl @hg @hgv @hev @hsp @hcl @List.length_map.{0, 0}))
   refine At.of (k + 1, c2, gc + 1) ⟨by simp only; omega, hc2, by simp only; omega⟩ (by simp only; omega) rfl rfl (Nat.le_refl _) ?_ ?_
   iterate 2 (case _ => (first | exact vU @hsp | refine vR @hsp ?_))
 · have dk : decide ((k : Int) < (T.length : Int)) = false := decide_eq_false (by omega)
   rw [List.take_of_length_le (by omega)] at hc
   obtain rfl : c = ctT T := hc
   repeat (first | refine xR (ja2 @dk @hAl) ?_ | exact xU (ja2 @dk @hAl))
   refine goC_f 6 1 (nl := false) (cells := (ctT T).map nA) [.sl false none ((ctT T).map nA), int ((7 : Nat) : Int)] _ (by (first | exact vT | refine vS ?_)) (by (first | exact vU @free_nA | refine vR @free_nA ?_)) ?_ (by (first | exact vU @free_nA | refine vR @free_nA ?_)) bc ?_
   · (first | exact vU (ja3 fR iR @hcl) | refine vR (ja3 fR iR @hcl) ?_)
   repeat (first | refine xR (ja3 fR iR @cdA.eq_1) ?_ | exact xU (ja3 fR iR @cdA.eq_1))
end Go.Proofs.YtbcncdpaigljeaaGreatDoor.Aw
namespace Go.Proofs.YtbcncdpaigljeaaGreatDoor.Aw
open Go
set_option linter.unusedSimpArgs false
set_option linter.unusedVariables false
def litL (P : List (Nat × Nat)) : List Nat := P.map fun p => (litS p).1
def dstL (P : List (Nat × Nat)) : List Nat := (P.filter fun p => decide (0 < p.2)).map fun p => (dstS p).1
def litCt (P : List (Nat × Nat)) : List Nat := ctN 286 (litL P ++ [256] ++ if P.length = 0 then [0] else [])
def dstCt (P : List (Nat × Nat)) : List Nat := ctN 30 (dstL P)
theorem length_litL {P : List (Nat × Nat)} : (litL P).length = P.length := by simp [litL]
theorem length_dstL {P : List (Nat × Nat)} : (dstL P).length ≤ P.length := by rw [dstL, List.length_map]; exact List.length_filter_le _ _
theorem litCt_ok {P : List (Nat × Nat)} (h : P.length ≤ 20000) : CtOk (litCt P) 15 := ctN_ok (by omega) (by rw [List.length_append, List.length_append, length_litL]; split <;> simp <;> omega) (by omega) (by omega) (by omega)
theorem dstCt_ok {P : List (Nat × Nat)} (h : P.length ≤ 20000) : CtOk (dstCt P) 15 := ctN_ok (by omega) (Nat.le_trans length_dstL (by omega)) (by omega) (by omega) (by omega)
theorem litL_snoc {P : List (Nat × Nat)} {k : Nat} (h : k < P.length) : litL (P.take (k + 1)) = litL (P.take k) ++ [(litS (P.getD k (0, 0))).1] := by rw [snocD (d := (0, 0)) h, litL, List.map_append]; rfl
theorem dstL_snoc {P : List (Nat × Nat)} {k : Nat} (h : k < P.length) : dstL (P.take (k + 1)) = dstL (P.take k) ++ if 0 < (P.getD k (0, 0)).2 then [(dstS (P.getD k (0, 0))).1] else [] := by
 rw [snocD (d := (0, 0)) h, dstL, List.filter_append, List.map_append]
 congr 1
 by_cases c : 0 < (P.getD k (0, 0)).2
 · rw [if_pos c, List.filter_cons_of_pos (by simpa using c)]; rfl
 · rw [if_neg c, List.filter_cons_of_neg (by simpa using c)]; rfl
set_option maxHeartbeats 2000000 in
set_option maxRecDepth 100000 in
theorem bestCodes_c [Tabs Tryz.prog] (nl : Bool) (P : List (Nat × Nat)) (hP : P.length ≤ 20000) (hok : ∀ p ∈ P, pcOk p) : Con Tryz.prog n_deflate_bestCodes [.sl nl (some 2) (P.map pcA)] (cdsA (lensB (litCt P) 15) (lensB (dstCt P) 15)) := by
 refine Con.of' mix Tryz.func52 rfl Tryz.ntmps52 e_deflate_bestCodes r_deflate_bestCodes (by simp) (by simp only [AV.free, AV.free.freeL, free_pcs, Bool.and_self]) free_cdsA ?_
 unfold s_deflate_bestCodes
 have bl := bestCode_c false (litCt P) 15 (litCt_ok hP)
 have bd := bestCode_c false (dstCt P) 15 (dstCt_ok hP)
 unfold cdA at bl bd
 obtain ⟨F, hF⟩ : ∃ F, F = lensB (litCt P) 15 := ⟨_, rfl⟩
 obtain ⟨D, hD⟩ : ∃ D, D = lensB (dstCt P) 15 := ⟨_, rfl⟩
 rw [← hF] at bl ⊢
 rw [← hD] at bd ⊢
 have hz := ctN_zeros (n := 286)
 have hz2 := ctN_zeros (n := 30)
 obtain ⟨A, hA⟩ : ∃ A, A = P.map pcA := ⟨_, rfl⟩
 have hAl : A.length = P.length := by rw [hA, List.length_map]
 have hrA : ∀ ρ, ren.renL ρ A = A := fun ρ => by rw [hA]; exact renL_free ρ _ free_pcs
 have hgA : ∀ k, k < P.length → A.getD k .junk = .agg [.sc (.int .u16 ((P.getD k (0, 0)).1 : Int)), .sc (.int .u16 ((P.getD k (0, 0)).2 : Int))] := fun k hk => by rw [hA, getD_pc hk]; rfl
 rw [← hA]
 iterate 3 (first | refine xS ?_ | exact xT)
 refine SWp.reg2 ?_ ?_
 repeat (first | refine xR (ja4 @hz @hz2 @hAl @List.length_map.{0, 0}) ?_ | exact xU (ja4 @hz @hz2 @hAl @List.length_map.{0, 0}))
 refine SWp.renew 7 1 (o := .row false ((ctN 286 []).map nA)) (by (first | exact vT | refine vS ?_)) ?_
 refine SWp.renew 8 2 (o := .row false ((ctN 30 []).map nA)) (by (first | exact vU (ja4 @rgH_at @rgn_eq @renL_nA iR) | refine vR (ja4 @rgH_at @rgn_eq @renL_nA iR) ?_)) ?_
 refine SWp.le (le_mk (N := 52) (gc := 5) (l := [(0, .sl nl (some 2) A), (2, .op 2 0 0), (3, .own 7 3 none 0 286), (4, .own 8 4 none 0 30), (9, .sl nl (some 2) A), (10, int P.length), (11, int 0)]) (h := [(2, 0, .row false [.sc (.slice none 0 0), .sc (.slice none 0 0), .sc (.slice none 0 0), .sc (.slice none 0 0)]), (7, 3, .row false ((ctN 286 []).map nA)), (8, 4, .row false ((ctN 30 []).map nA))]) rfl ?_ ?_ ?_) ?_
 iterate 3 (case _ => (first | exact vU (ja4 @rgn_eq iR @hrA @rgH_at) | refine vR (ja4 @rgn_eq iR @hrA @rgH_at) ?_))
 rotate_left
 repeat (first | refine xR (ja4 @hz @hz2 @hAl @List.length_map.{0, 0}) ?_ | exact xU (ja4 @hz @hz2 @hAl @List.length_map.{0, 0}))
 refine SWp.renew 7 2 (o := .row false ((ctN 286 []).map nA)) (by (first | exact vT | refine vS ?_)) ?_
 refine SWp.renew 8 1 (o := .row false ((ctN 30 []).map nA)) (by (first | exact vU (ja4 @rgH_at @rgn_eq @renL_nA iR) | refine vR (ja4 @rgH_at @rgn_eq @renL_nA iR) ?_)) ?_
 refine SWp.le (le_mk (N := 52) (gc := 5) (l := [(0, .sl nl (some 2) A), (2, .op 2 0 0), (3, .own 7 3 none 0 286), (4, .own 8 4 none 0 30), (9, .sl nl (some 2) A), (10, int P.length), (11, int 0)]) (h := [(2, 0, .row false [.sc (.slice none 0 0), .sc (.slice none 0 0), .sc (.slice none 0 0), .sc (.slice none 0 0)]), (7, 3, .row false ((ctN 286 []).map nA)), (8, 4, .row false ((ctN 30 []).map nA))]) rfl ?_ ?_ ?_) ?_
 iterate 3 (case _ => (first | exact vU (ja4 @rgn_eq iR @hrA @rgH_at) | refine vR (ja4 @rgn_eq iR @hrA @rgH_at) ?_))
 all_goals
   refine SWp.loop (α := Nat × List Nat × List Nat × Nat) (fun x => mk 52 x.2.2.2 [(0, .sl nl (some 2) A), (2, .op 2 0 0), (3, .own 7 3 none 0 286), (4, .own 8 4 none 0 30), (9, .sl nl (some 2) A), (10, int P.length), (11, int x.1)] [(2, 0, .row false [.sc (.slice none 0 0), .sc (.slice none 0 0), .sc (.slice none 0 0), .sc (.slice none 0 0)]), (7, 3, .row false (x.2.1.map nA)), (8, 4, .row false (x.2.2.1.map nA))])
     (fun x => x.1 ≤ P.length ∧ x.2.1 = ctN 286 (litL (P.take x.1)) ∧ x.2.2.1 = ctN 30 (dstL (P.take x.1)) ∧ x.2.2.2 = 5 + x.1) (fun x => P.length - x.1) (0, ctN 286 [], ctN 30 [], 5) ⟨Nat.zero_le _, by simp [litL], by simp [dstL], by simp⟩ (le_mk rfl ?_ ?_ ?_) ?_
   · exact Nat.le_refl _
   iterate 2 (case _ => (first | exact vT | refine vS ?_))
   rintro ⟨k, cl, cd, gc⟩ ⟨hk, hcl, hcd, hgc⟩ -
   simp only at hk hcl hcd hgc
   have hll : cl.length = 286 := by rw [hcl, length_ctN]
   have hdl : cd.length = 30 := by rw [hcd, length_ctN]
   by_cases ck : k < P.length
   · have dk : decide ((k : Int) < (P.length : Int)) = true := decide_eq_true (by omega)
     have hg := hgA k ck
     have hls := litL_snoc ck
     have hds := dstL_snoc ck
     obtain ⟨p, hp⟩ : ∃ p, p = P.getD k (0, 0) := ⟨_, rfl⟩
     rw [← hp] at hg hls hds
     have hpP : p ∈ P := by
       have : P.getD k (0, 0) = P[k] := by simp [List.getD, ck]
       rw [hp, this]; exact List.getElem_mem _
     have ho := hok p hpP
     have lc := literal_c p ho
     have ir := isRun_c p
     rw [pcA] at lc ir
     have hu := (lit_ok (l := List.replicate 286 0) (by simp) ho).num
     rw [List.length_replicate] at hu
     have hsn := ctN_snoc (S := litL (P.take k)) hu
     rw [← hls, ← hcl] at hsn
     have hcv : (litL (P.take k)).count (litS p).1 ≤ 20000 := Nat.le_trans List.count_le_length (by rw [length_litL, List.length_take]; omega)
     have hge : cl.getD (litS p).1 0 = (litL (P.take k)).count (litS p).1 := by rw [hcl, ctN_get hu]
     obtain ⟨⟨u, u2, u3⟩, hue⟩ : ∃ s, s = litS p := ⟨_, rfl⟩
     rw [← hue] at hu hsn hcv hge lc
     simp only [syA] at hu hsn hcv hge lc
     obtain ⟨v, hv⟩ : ∃ v, v = (litL (P.take k)).count u := ⟨_, rfl⟩
     rw [← hv] at hsn hcv hge
     have hgv : (cl.map nA).getD u .junk = .sc (.int .i64 (v : Int)) := by rw [getD_nA (by omega), hge]
     obtain ⟨v1, hv1⟩ : ∃ v1, v1 = v + 1 := ⟨_, rfl⟩
     rw [← hv1] at hsn
     have hev : (v : Int) + 1 = (v1 : Int) := by omega
     have hsp := splice_nA (l := cl) (k := u) (x := v1) (by omega)
     rw [hsn, ← take_nA, ← drop_nA] at hsp
     obtain ⟨cl2, hcl2⟩ : ∃ c, c = ctN 286 (litL (P.take (k + 1))) := ⟨_, rfl⟩
     rw [← hcl2] at hsp
     by_cases c0 : 0 < p.2
     · have e0 : decide (0 < p.2) = true := decide_eq_true c0
       rw [e0] at ir
       rw [if_pos c0] at hds
       have dc := distance_c p c0 (by have := ho; simp only [pcOk] at this; omega)
       rw [pcA] at dc
       have hx := (dst_ok (d := List.replicate 30 0) (by simp) ho c0).num
       rw [List.length_replicate] at hx
       have hdn := ctN_snoc (S := dstL (P.take k)) hx
       rw [← hds, ← hcd] at hdn
       have hdv : (dstL (P.take k)).count (dstS p).1 ≤ 20000 := Nat.le_trans List.count_le_length (Nat.le_trans length_dstL (by rw [List.length_take]; omega))
       have hde : cd.getD (dstS p).1 0 = (dstL (P.take k)).count (dstS p).1 := by rw [hcd, ctN_get hx]
       obtain ⟨⟨x, x2, x3⟩, hxe⟩ : ∃ s, s = dstS p := ⟨_, rfl⟩
       rw [← hxe] at hx hdn hdv hde dc
       simp only [syA] at hx hdn hdv hde dc
       obtain ⟨w, hw⟩ : ∃ v, v = (dstL (P.take k)).count x := ⟨_, rfl⟩
       rw [← hw] at hdn hdv hde
       have hgw : (cd.map nA).getD x .junk = .sc (.int .i64 (w : Int)) := by rw [getD_nA (by omega), hde]
       obtain ⟨w1, hw1⟩ : ∃ v1, v1 = w + 1 := ⟨_, rfl⟩
       rw [← hw1] at hdn
       have ew : (w : Int) + 1 = (w1 : Int) := by omega
       have hsq := splice_nA (l := cd) (k := x) (x := w1) (by omega)
       rw [hdn, ← take_nA, ← drop_nA] at hsq
       obtain ⟨cd2, hcd2⟩ : ∃ c, c = ctN 30 (dstL (P.take (k + 1))) := ⟨_, rfl⟩
       rw [← hcd2] at hsq
       repeat (first | refine xR (ja3 @dk @hAl @hg) ?_ | exact xU (ja3 @dk @hAl @hg))
       refine goC_p _ (.inl ⟨rfl, lc⟩) ?_
       repeat (first | refine xR (ja5 @hgv @hev @hsp @hll @List.length_map.{0, 0}) ?_ | exact xU (ja5 @hgv @hev @hsp @hll @List.length_map.{0, 0}))
       refine goC_p _ (.inl ⟨rfl, ir⟩) ?_
       repeat (first | refine xS ?_ | exact xT)
       refine goC_p _ (.inl ⟨rfl, dc⟩) ?_
       repeat (first | refine xR (ja5 @hgw @ew @hsq @hdl @List.length_map.{0, 0}) ?_ | exact xU (ja5 @hgw @ew @hsq @hdl @List.length_map.{0, 0}))
       refine At.of (k + 1, cl2, cd2, gc + 1) ⟨by simp only; omega, hcl2, hcd2, by simp only; omega⟩ (by simp only; omega) rfl rfl (Nat.le_refl _) ?_ ?_
       iterate 2 (case _ => (first | exact vU (ja2 @hsp @hsq) | refine vR (ja2 @hsp @hsq) ?_))
     · have e0 : decide (0 < p.2) = false := decide_eq_false c0
       rw [e0] at ir
       rw [if_neg c0, List.append_nil] at hds
       rw [← hds] at hcd
       repeat (first | refine xR (ja3 @dk @hAl @hg) ?_ | exact xU (ja3 @dk @hAl @hg))
       refine goC_p _ (.inl ⟨rfl, lc⟩) ?_
       repeat (first | refine xR (ja5 @hgv @hev @hsp @hll @List.length_map.{0, 0}) ?_ | exact xU (ja5 @hgv @hev @hsp @hll @List.length_map.{0, 0}))
       refine goC_p _ (.inl ⟨rfl, ir⟩) ?_
       repeat (first | refine xS ?_ | exact xT)
       refine At.of (k + 1, cl2, cd, gc + 1) ⟨by simp only; omega, hcl2, hcd, by simp only; omega⟩ (by simp only; omega) rfl rfl (Nat.le_refl _) ?_ ?_
       iterate 2 (case _ => (first | exact vU @hsp | refine vR @hsp ?_))
   · have dk : decide ((k : Int) < (P.length : Int)) = false := decide_eq_false (by omega)
     rw [List.take_of_length_le (by omega)] at hcl hcd
     have hsn := ctN_snoc (n := 286) (u := 256) (S := litL P) (by omega)
     have hge : cl.getD 256 0 = (litL P).count 256 := by rw [hcl, ctN_get (by omega)]
     have hcv : (litL P).count 256 ≤ 20000 := Nat.le_trans List.count_le_length (by rw [length_litL]; omega)
     rw [← hcl] at hsn
     obtain ⟨v, hv⟩ : ∃ v, v = (litL P).count 256 := ⟨_, rfl⟩
     rw [← hv] at hsn hcv hge
     have hgv : (cl.map nA).getD 256 .junk = .sc (.int .i64 (v : Int)) := by rw [getD_nA (by omega), hge]
     obtain ⟨v1, hv1⟩ : ∃ v1, v1 = v + 1 := ⟨_, rfl⟩
     rw [← hv1] at hsn
     have hev : (v : Int) + 1 = (v1 : Int) := by omega
     have hsp := splice_nA (l := cl) (k := 256) (x := v1) (by omega)
     rw [hsn, ← take_nA, ← drop_nA] at hsp
     obtain ⟨c2, hc2⟩ : ∃ c, c = ctN 286 (litL P ++ [256]) := ⟨_, rfl⟩
     rw [← hc2] at hsp
     have hc2l : c2.length = 286 := by rw [hc2, length_ctN]
     have hdC : cd = dstCt P := hcd
     rw [← hdC] at bd
     by_cases cz : P.length = 0
     · have dz : decide ((P.length : Int) = 0) = true := decide_eq_true (by omega)
       have hsn := ctN_snoc (n := 286) (u := 0) (S := litL P ++ [256]) (by omega)
       have hge : c2.getD 0 0 = (litL P ++ [256]).count 0 := by rw [hc2, ctN_get (by omega)]
       have hcv : (litL P ++ [256]).count 0 ≤ 20001 := Nat.le_trans List.count_le_length (by rw [List.length_append, length_litL]; simp; omega)
       rw [← hc2] at hsn
       obtain ⟨w, hw⟩ : ∃ v, v = (litL P ++ [256]).count 0 := ⟨_, rfl⟩
       rw [← hw] at hsn hcv hge
       have hgw : (c2.map nA).getD 0 .junk = .sc (.int .i64 (w : Int)) := by rw [getD_nA (by omega), hge]
       obtain ⟨w1, hw1⟩ : ∃ v1, v1 = w + 1 := ⟨_, rfl⟩
       rw [← hw1] at hsn
       have ew : (w : Int) + 1 = (w1 : Int) := by omega
       have hsq := splice_nA (l := c2) (k := 0) (x := w1) (by omega)
       rw [hsn, ← take_nA, ← drop_nA] at hsq
       obtain ⟨c3, hc3⟩ : ∃ c, c = ctN 286 (litL P ++ [256] ++ [0]) := ⟨_, rfl⟩
       rw [← hc3] at hsq
       have hc3l : c3.length = 286 := by rw [hc3, length_ctN]
       have hlC : c3 = litCt P := by rw [hc3, litCt, if_pos cz]
       rw [← hlC] at bl
       rw [List.take_zero, List.nil_append, Nat.zero_add] at hsq
       repeat (first | refine xR (ja8 @dk @hAl @hgv @hev @hsp @hll @dz (ja5 @hgw @ew @hsq @hc2l @List.length_map.{0, 0})) ?_ | exact xU (ja8 @dk @hAl @hgv @hev @hsp @hll @dz (ja5 @hgw @ew @hsq @hc2l @List.length_map.{0, 0})))
       refine goC_f 7 3 (nl := false) (cells := c3.map nA) [.sl false none (c3.map nA), int ((15 : Nat) : Int)] _ (by (first | exact vT | refine vS ?_)) (by (first | exact vU @free_nA | refine vR @free_nA ?_)) ?_ (by (first | exact vU @free_nA | refine vR @free_nA ?_)) bl ?_
       · (first | exact vU (ja3 fR iR @hc3l) | refine vR (ja3 fR iR @hc3l) ?_)
       repeat (first | refine xR (ja2 fR iR) ?_ | exact xU (ja2 fR iR))
       refine goC_f 8 4 (nl := false) (cells := cd.map nA) [.sl false none (cd.map nA), int ((15 : Nat) : Int)] _ (by (first | exact vT | refine vS ?_)) (by (first | exact vU @free_nA | refine vR @free_nA ?_)) ?_ (by (first | exact vU @free_nA | refine vR @free_nA ?_)) bd ?_
       · (first | exact vU (ja3 fR iR @hdl) | refine vR (ja3 fR iR @hdl) ?_)
       repeat (first | refine xR (ja3 fR iR @cdsA.eq_1) ?_ | exact xU (ja3 fR iR @cdsA.eq_1))
     · have dz : decide ((P.length : Int) = 0) = false := decide_eq_false (by omega)
       have hlC : c2 = litCt P := by rw [hc2, litCt, if_neg cz, List.append_nil]
       rw [← hlC] at bl
       repeat (first | refine xR (ja8 @dk @hAl @hgv @hev @hsp @hll @dz @List.length_map.{0, 0}) ?_ | exact xU (ja8 @dk @hAl @hgv @hev @hsp @hll @dz @List.length_map.{0, 0}))
       refine goC_f 7 3 (nl := false) (cells := c2.map nA) [.sl false none (c2.map nA), int ((15 : Nat) : Int)] _ (by (first | exact vT | refine vS ?_)) (by (first | exact vU @free_nA | refine vR @free_nA ?_)) ?_ (by (first | exact vU @free_nA | refine vR @free_nA ?_)) bl ?_
       · (first | exact vU (ja3 fR iR @hc2l) | refine vR (ja3 fR iR @hc2l) ?_)
       repeat (first | refine xR (ja2 fR iR) ?_ | exact xU (ja2 fR iR))
       refine goC_f 8 4 (nl := false) (cells := cd.map nA) [.sl false none (cd.map nA), int ((15 : Nat) : Int)] _ (by (first | exact vT | refine vS ?_)) (by (first | exact vU @free_nA | refine vR @free_nA ?_)) ?_ (by (first | exact vU @free_nA | refine vR @free_nA ?_)) bd ?_
       · (first | exact vU (ja3 fR iR @hdl) | refine vR (ja3 fR iR @hdl) ?_)
       repeat (first | refine xR (ja3 fR iR @cdsA.eq_1) ?_ | exact xU (ja3 fR iR @cdsA.eq_1))
end Go.Proofs.YtbcncdpaigljeaaGreatDoor.Aw
namespace Go.Proofs.YtbcncdpaigljeaaGreatDoor.Aw
open Go
set_option linter.unusedSimpArgs false
set_option linter.unusedVariables false
def tlO : List Nat := [16, 17, 18, 0, 8, 7, 9, 6, 10, 5, 11, 4, 12, 3, 13, 2, 14, 1, 15]
theorem tlO_lt : ∀ k, k < 19 → tlO.getD k 0 < 19 := by decide
def tdL (l d : List Nat) : List Nat := cutM l 257 ++ cutM d 1
def tdF (l d : List Nat) : List Nat := lensB (ctT (tls (tdL l d))) 7
def tdO (F : List Nat) : List Nat := tlO.map fun i => F.getD i 0
def tellB (l d : List Nat) : List Nat :=
 digB ((cutM l 257).length - 257) 5 ++ (digB ((cutM d 1).length - 1) 5 ++ (digB ((cutM (tdO (tdF l d)) 4).length - 4) 4 ++
   ((cutM (tdO (tdF l d)) 4).flatMap (fun x => digB x 3) ++ (tls (tdL l d)).flatMap (symB (tdF l d)))))
theorem cutM_len {l : List Nat} {q : Nat} (h : q ≤ l.length) : q ≤ (cutM l q).length ∧ (cutM l q).length ≤ l.length := by
 rw [cutM, List.length_take]
 have h1 := cutN_ge (l := l) (q := q) h
 have h2 := cutN_le (l := l) (q := q) (n := l.length)
 omega
theorem cutM_le {l : List Nat} {q b : Nat} (h : ∀ x ∈ l, x ≤ b) : ∀ x ∈ cutM l q, x ≤ b := fun x hx => h x (List.mem_of_mem_take hx)
theorem put_y [Tabs Tryz.prog] (X : List Nat) (hl : X.length ≤ 2000000) (hX : ∀ x ∈ X, x < 2) (v : Nat) (hv : v < 16777216) (n : Nat) (hn : n ≤ 24) (Y : List Nat) (hY : Y = X ++ digB v n) :
   HCon Tryz.prog n_huff_Writer_Put [.op 1000 0 0, .sc (.int .i64 (v : Int)), .sc (.int .i64 (n : Int))] [.row false (wrR 0 ((X.length + 7) / 8) X.length), .row (nl0 ((X.length + 7) / 8)) ((bytesB X).map u8)] (.tup [])
     [(1000, 0, .row false (wrR 60 ((Y.length + 7) / 8) Y.length)), (1001, 60, .row (nl0 ((Y.length + 7) / 8)) ((bytesB Y).map u8))] 61 := by
 have h := huff_Put_h X hl hX v hv n hn X.length ((X.length + 7) / 8) rfl rfl
 have e : X.length + n = Y.length := by rw [hY, List.length_append, length_digB]
 rw [← hY, e] at h
 exact h
theorem put_lt {X Y : List Nat} {v n : Nat} (hX : ∀ x ∈ X, x < 2) (hY : Y = X ++ digB v n) : ∀ x ∈ Y, x < 2 := fun x hx => by rw [hY] at hx; exact (List.mem_append.1 hx).elim (hX x) (digB_lt x)
theorem put_len {X Y : List Nat} {v n : Nat} (hY : Y = X ++ digB v n) : Y.length = X.length + n := by rw [hY, List.length_append, length_digB]
set_option maxHeartbeats 2000000 in
set_option maxRecDepth 100000 in
theorem packer_tell_h [Tabs Tryz.prog] (ht : Tabs.tab Tryz.prog 0 = some (tlO.map nA)) (L : List Nat) (hl : L.length ≤ 100000) (hL : ∀ x ∈ L, x < 2) (l d : List Nat) (ol : LnOk l) (od : LnOk d) (l1 : l.length = 286) (d1 : d.length = 30) (i m : Nat) (hi : i = L.length) (hm : m = (L.length + 7) / 8) (j : Nat) (hj : j = (L ++ tellB l d).length) :
   HCon Tryz.prog n_deflate_packer_tell [.agg [.op 1000 0 0], cdsA l d] [.row false (wrR 0 m i), .row (nl0 m) ((bytesB L).map u8)] (.tup [])
     [(1000, 0, .row false (wrR (KE + 1) ((j + 7) / 8) j)), (1001, KE + 1, .row (nl0 ((j + 7) / 8)) ((bytesB (L ++ tellB l d)).map u8))] (KE + 2) := by
 refine HCon.of' mix Tryz.func53 rfl Tryz.ntmps53 e_deflate_packer_tell r_deflate_packer_tell (by simp) ?_ wr_gl ?_
 · simp only [AV.gl.glL, AV.gl, cdsA, and_true, true_and]
   exact ⟨by omega, glL_of_free _ _ free_nA, glL_of_free _ _ free_nA, glL_of_free _ _ free_nA, glL_of_free _ _ free_nA⟩
 unfold s_deflate_packer_tell
 have hG : ∀ st, ev Tryz.prog st (.global 0) = .fp (.agg (tlO.map nA)) 0 := fun st => ev_global ht
 obtain ⟨O, hO⟩ : ∃ O, O = tlO := ⟨_, rfl⟩
 have hOl : O.length = 19 := by rw [hO]; rfl
 have hOx : ∀ k, k < 19 → O.getD k 0 < 19 := by rw [hO]; exact tlO_lt
 rw [← hO] at hG
 have k1 := cutM_len (l := l) (q := 257) (by omega)
 have k2 := cutM_len (l := d) (q := 1) (by omega)
 have cl := cut_c false l (by omega) 257 (by omega)
 have cd := cut_c false d (by omega) 1 (by omega)
 have h15 : ∀ x ∈ tdL l d, x ≤ 15 := fun x hx => (List.mem_append.1 hx).elim (cutM_le ol.small x) (cutM_le od.small x)
 have kl : (tdL l d).length ≤ 320 := by rw [tdL, List.length_append]; omega
 have cc := slices_ConcatI false false ((cutM l 257).map nA) ((cutM d 1).map nA) free_nA free_nA (by rw [List.length_map]; omega) (by rw [List.length_map]; omega) (by rw [List.length_map, List.length_map]; omega)
 rw [← List.map_append, ← tdL] at cc
 have ct := tellsOf_c false (tdL l d) (by omega) h15
 obtain ⟨o1, o2⟩ := tls_ok h15
 have cb := bestTeller_c (nl0 (tls (tdL l d)).length) (tls (tdL l d)) (by omega) o1
 rw [← tdF] at cb
 have oF : LnOk (tdF l d) := lens_LnOk (ctT_ok (by omega))
 have lF : (tdF l d).length = 19 := by rw [tdF, length_lens, ctT, length_ctN]
 have hB : tellB l d = digB ((cutM l 257).length - 257) 5 ++ (digB ((cutM d 1).length - 1) 5 ++ (digB ((cutM (tdO (tdF l d)) 4).length - 4) 4 ++ ((cutM (tdO (tdF l d)) 4).flatMap (fun x => digB x 3) ++ (tls (tdL l d)).flatMap (symB (tdF l d))))) := rfl
 have hOF : tdO (tdF l d) = O.map fun i => (tdF l d).getD i 0 := by rw [hO]; rfl
 obtain ⟨B, hBe⟩ : ∃ B, B = tellB l d := ⟨_, rfl⟩
 rw [← hBe] at hB hj ⊢
 obtain ⟨F, hF⟩ : ∃ F, F = tdF l d := ⟨_, rfl⟩
 rw [← hF] at cb oF lF hB hOF
 obtain ⟨T, hT⟩ : ∃ T, T = tls (tdL l d) := ⟨_, rfl⟩
 rw [← hT] at ct o1 o2 cb hB
 obtain ⟨S, hS⟩ : ∃ S, S = tdL l d := ⟨_, rfl⟩
 rw [← hS] at ct cc h15 kl o2
 obtain ⟨L2, hL2⟩ : ∃ X, X = cutM l 257 := ⟨_, rfl⟩
 obtain ⟨D2, hD2⟩ : ∃ X, X = cutM d 1 := ⟨_, rfl⟩
 rw [← hL2] at k1 cl cc hB
 rw [← hD2] at k2 cd cc hB
 obtain ⟨V, hV⟩ : ∃ V, V = tdO F := ⟨_, rfl⟩
 rw [← hV] at hB hOF
 have hVl : V.length = 19 := by rw [hOF, List.length_map, hOl]
 have cv := cut_c false V (by omega) 4 (by omega)
 have k3 := cutM_len (l := V) (q := 4) (by omega)
 have hV15 : ∀ x ∈ V, x ≤ 15 := fun x hx => by
   rw [hOF] at hx
   obtain ⟨y, hy, rfl⟩ := List.mem_map.1 hx
   obtain ⟨k, hk, rfl⟩ := List.getElem_of_mem hy
   have := hOx k (by omega)
   have e : O.getD k 0 = O[k] := by simp [List.getD, hk]
   rw [← e]
   exact getD_le oF.small (by omega)
 have hQ15 := cutM_le (q := 4) hV15
 obtain ⟨Q, hQ⟩ : ∃ Q, Q = cutM V 4 := ⟨_, rfl⟩
 rw [← hQ] at cv k3 hQ15 hB
 clear hS hT hF hV hL2 hD2 hQ
 obtain ⟨C, hC⟩ : ∃ C, C = codesL l := ⟨_, rfl⟩
 obtain ⟨D, hD⟩ : ∃ D, D = codesL d := ⟨_, rfl⟩
 obtain ⟨E, hE⟩ : ∃ E, E = codesL F := ⟨_, rfl⟩
 unfold cdsA
 rw [← hC, ← hD]
 rw [cdA, ← hE] at cb
 obtain ⟨A, hA⟩ : ∃ A, A = T.map syA := ⟨_, rfl⟩
 have hAl : A.length = T.length := by rw [hA, List.length_map]
 have fA : AV.free.freeL A = true := by rw [hA]; exact free_sys
 have hgA : ∀ k, k < T.length → A.getD k .junk = .agg [.sc (.int .i64 ((T.getD k (0, 0, 0)).1 : Int)), .sc (.int .i64 ((T.getD k (0, 0, 0)).2.1 : Int)), .sc (.int .i64 ((T.getD k (0, 0, 0)).2.2 : Int))] := fun k hk => by rw [hA, getD_sy hk]; rfl
 rw [← hA] at ct cb
 repeat (first | refine zS ?_ | exact zT)
 refine goC_p _ (.inl ⟨by simp only [AV.free, AV.free.freeL, free_nA, Bool.and_self], cl⟩) ?_
 repeat (first | refine zS ?_ | exact zT)
 refine goC_p _ (.inl ⟨by simp only [AV.free, AV.free.freeL, free_nA, Bool.and_self], cd⟩) ?_
 repeat (first | refine zS ?_ | exact zT)
 refine goC_f 25 3 (nl := false) (cells := [.sl false none (L2.map nA), .sl false none (D2.map nA)]) [.sl false none [.sl false none (L2.map nA), .sl false none (D2.map nA)]] _ (by (first | exact yT | refine yS ?_)) (by (first | exact yU (ja8 @free_nA @AV.free.eq_1 @AV.free.eq_2 @AV.free.eq_3 @AV.free.eq_4 @AV.free.eq_5 @AV.free.eq_6 (ja7 @AV.free.eq_7 @AV.free.eq_8 @AV.free.eq_9 @AV.free.eq_10 @AV.free.freeL.eq_1 @AV.free.freeL.eq_2 @Bool.and_self)) | refine yR (ja8 @free_nA @AV.free.eq_1 @AV.free.eq_2 @AV.free.eq_3 @AV.free.eq_4 @AV.free.eq_5 @AV.free.eq_6 (ja7 @AV.free.eq_7 @AV.free.eq_8 @AV.free.eq_9 @AV.free.eq_10 @AV.free.freeL.eq_1 @AV.free.freeL.eq_2 @Bool.and_self)) ?_)) ?_ (by (first | exact yU (ja8 @free_nA @AV.free.eq_1 @AV.free.eq_2 @AV.free.eq_3 @AV.free.eq_4 @AV.free.eq_5 @AV.free.eq_6 (ja7 @AV.free.eq_7 @AV.free.eq_8 @AV.free.eq_9 @AV.free.eq_10 @AV.free.freeL.eq_1 @AV.free.freeL.eq_2 @Bool.and_self)) | refine yR (ja8 @free_nA @AV.free.eq_1 @AV.free.eq_2 @AV.free.eq_3 @AV.free.eq_4 @AV.free.eq_5 @AV.free.eq_6 (ja7 @AV.free.eq_7 @AV.free.eq_8 @AV.free.eq_9 @AV.free.eq_10 @AV.free.freeL.eq_1 @AV.free.freeL.eq_2 @Bool.and_self)) ?_)) cc ?_
 · (first | exact yU (ja2 fR iR) | refine yR (ja2 fR iR) ?_)
 repeat (first | refine zR (ja2 fR iR) ?_ | exact zU (ja2 fR iR))
 refine goC_p _ (.inl ⟨by simp only [AV.free, AV.free.freeL, free_nA, Bool.and_self], ct⟩) ?_
 repeat (first | refine zS ?_ | exact zT)
 refine goC_p _ (.inl ⟨by simp only [AV.free, AV.free.freeL, fA, Bool.and_self], cb⟩) ?_
 iterate 3 (first | refine zS ?_ | exact zT)
 refine SWp.adopt 8 none (by (first | exact yT | refine yS ?_)) ?_
 have htk : List.take 19 (O.map nA) = O.map nA := List.take_of_length_le (by rw [List.length_map, hOl]; exact Nat.le_refl _)
 repeat (first | refine zR (ja2 @hG @htk) ?_ | exact zU (ja2 @hG @htk))
 refine SWp.loop (α := Nat × Nat × Nat) (fun x => mk 85 x.2.2 [(2, .op 2 1 0), (4, .sl false none (L2.map nA)), (5, .sl false none (D2.map nA)), (6, .sl (nl0 T.length) (some 3) A), (7, .op 7 4 0), (8, .own 8 x.2.1 none 0 x.1), (30, .agg (O.map nA)), (31, int x.1)] [(1000, 0, .row false (wrR 0 m i)), (1001, 0, .row (nl0 m) ((bytesB L).map u8)), (2, 1, .row false [.op 1000 0 0]), (7, 4, .row false [.sl false none (F.map nA), .sl false none (E.map nA)]), (8, x.2.1, .row (nl0 x.1) ((V.take x.1).map nA))])
   (fun x => x.1 ≤ 19 ∧ x.2.2 ≤ 6 + x.1) (fun x => 19 - x.1) (0, 5, 6) ⟨Nat.zero_le _, by simp⟩ (le_mk rfl ?_ ?_ ?_) ?_
 · exact Nat.le_refl _
 · (first | exact yT | refine yS ?_)
 · (first | exact yU (ja2 @nl0_zero @nl00) | refine yR (ja2 @nl0_zero @nl00) ?_)
   try rfl
 rintro ⟨k, g, gc⟩ ⟨hk, hgc⟩ -
 simp only at hk hgc
 have hVtl : (V.take k).length = k := by rw [List.length_take, hVl]; omega
 by_cases ck : k < 19
 · have dk : decide ((k : Int) < 19) = true := decide_eq_true (by omega)
   have hw := hOx k ck
   obtain ⟨w, hwe⟩ : ∃ w, w = O.getD k 0 := ⟨_, rfl⟩
   rw [← hwe] at hw
   have hgo : (O.map nA).getD k .junk = .sc (.int .i64 (w : Int)) := by rw [hwe]; exact getD_nA (by omega)
   obtain ⟨v, hv⟩ : ∃ v, v = F.getD w 0 := ⟨_, rfl⟩
   have hgf : (F.map nA).getD w .junk = .sc (.int .i64 (v : Int)) := by rw [hv]; exact getD_nA (by omega)
   have hVv : V.getD k 0 = v := by rw [hOF]; simp only [List.getD, List.getElem?_map, List.getElem?_eq_getElem (show k < O.length by omega), Option.map_some, Option.getD_some]; rw [hv, hwe]; simp [List.getD, hOl, ck]
   have hsn : (V.take k).map nA ++ [.sc (.int .i64 (v : Int))] = (V.take (k + 1)).map nA := by rw [snocD (d := 0) (by omega), List.map_append, hVv]; rfl
   have hnl : nl0 (k + 1) = false := nl0_pos (by omega)
   repeat (first | refine zR (ja6 @dk @hgo @hgf @hOl @lF @List.length_map.{0, 0}) ?_ | exact zU (ja6 @dk @hgo @hgf @hOl @lF @List.length_map.{0, 0}))
   refine At.of (k + 1, gc, gc + 1) ⟨by simp only; omega, by simp only; omega⟩ (by simp only; omega) rfl rfl (Nat.le_refl _) ?_ ?_
   iterate 2 (case _ => (first | exact yU (ja2 @hsn @hnl) | refine yR (ja2 @hsn @hnl) ?_))
 have dk : decide ((k : Int) < 19) = false := decide_eq_false (by omega)
 obtain rfl : k = 19 := by omega
 rw [List.take_of_length_le (by omega)]
 have hn19 : nl0 19 = false := rfl
 obtain ⟨u, hu⟩ : ∃ u, u = L2.length - 257 := ⟨_, rfl⟩
 obtain ⟨v, hv⟩ : ∃ u, u = D2.length - 1 := ⟨_, rfl⟩
 obtain ⟨w, hw⟩ : ∃ u, u = Q.length - 4 := ⟨_, rfl⟩
 have eu : (L2.length : Int) - 257 = (u : Int) := by omega
 have hev : (D2.length : Int) - 1 = (v : Int) := by omega
 have ew : (Q.length : Int) - 4 = (w : Int) := by omega
 obtain ⟨X1, hX1⟩ : ∃ X, X = L ++ digB u 5 := ⟨_, rfl⟩
 obtain ⟨X2, hX2⟩ : ∃ X, X = X1 ++ digB v 5 := ⟨_, rfl⟩
 obtain ⟨X3, hX3⟩ : ∃ X, X = X2 ++ digB w 4 := ⟨_, rfl⟩
 have a1 := put_lt hL hX1
 have a2 := put_lt a1 hX2
 have a3 := put_lt a2 hX3
 have n1 := put_len hX1
 have n2 := put_len hX2
 have n3 := put_len hX3
 have p1 := put_y L (by omega) hL u (by omega) 5 (by omega) X1 hX1
 have p2 := put_y X1 (by omega) a1 v (by omega) 5 (by omega) X2 hX2
 have p3 := put_y X2 (by omega) a2 w (by omega) 4 (by omega) X3 hX3
 have hB3 : L ++ B = X3 ++ (Q.flatMap (fun x => digB x 3) ++ T.flatMap (symB F)) := by rw [hB, hX3, hX2, hX1, hu, hv, hw]; simp only [List.append_assoc]
 rw [hi, hm]
 rw [hB3] at hj ⊢
 clear hB hB3
 repeat (first | refine zR (ja2 @dk @hn19) ?_ | exact zU (ja2 @dk @hn19))
 refine goC_f 8 g (nl := false) (cells := V.map nA) [.sl false none (V.map nA), .sc (.int .i64 ((4 : Nat) : Int))] _ (by (first | exact yU @hn19 | refine yR @hn19 ?_)) (by (first | exact yU @free_nA | refine yR @free_nA ?_)) ?_ (by (first | exact yU @free_nA | refine yR @free_nA ?_)) cv ?_
 · (first | exact yU (ja4 fR iR @hVl @hn19) | refine yR (ja4 fR iR @hVl @hn19) ?_)
 repeat (first | refine zR (ja4 fR iR @eu @List.length_map.{0, 0}) ?_ | exact zU (ja4 fR iR @eu @List.length_map.{0, 0}))
 refine goC_h [(1000, 0), (1001, 0)] 2000 p1 (by simp) (by simp) ?_ ?_ ?_
 iterate 2 (case _ => (first | exact yU (ja2 @wrR.eq_1 iR) | refine yR (ja2 @wrR.eq_1 iR) ?_))
 repeat (first | refine zR (ja4 @wrR.eq_1 iR @hev @List.length_map.{0, 0}) ?_ | exact zU (ja4 @wrR.eq_1 iR @hev @List.length_map.{0, 0}))
 refine goC_h [(1000, 0), (1001, gc + 60)] 3000 p2 (by simp) (by simp) ?_ ?_ ?_
 iterate 2 (case _ => (first | exact yU (ja2 @wrR.eq_1 iR) | refine yR (ja2 @wrR.eq_1 iR) ?_))
 repeat (first | refine zR (ja4 @wrR.eq_1 iR @ew @List.length_map.{0, 0}) ?_ | exact zU (ja4 @wrR.eq_1 iR @ew @List.length_map.{0, 0}))
 refine goC_h [(1000, 0), (1001, gc + 61 + 60)] 4000 p3 (by simp) (by simp) ?_ ?_ ?_
 iterate 2 (case _ => (first | exact yU (ja2 @wrR.eq_1 iR) | refine yR (ja2 @wrR.eq_1 iR) ?_))
 repeat (first | refine zR (ja3 @wrR.eq_1 iR @List.length_map.{0, 0}) ?_ | exact zU (ja3 @wrR.eq_1 iR @List.length_map.{0, 0}))
 obtain ⟨g0, hg0⟩ : ∃ x, x = gc + 61 + 61 + 60 := ⟨_, rfl⟩
 obtain ⟨gc0, hgc0⟩ : ∃ x, x = gc + 61 + 61 + 61 := ⟨_, rfl⟩
 refine SWp.loop (α := Nat × List Nat × Nat × Nat) (fun x => mk 85 x.2.2.2 [(2, .op 2 1 0), (6, .sl (nl0 T.length) (some 3) A), (7, .op 7 4 0), (63, .sl false none (Q.map nA)), (64, int Q.length), (65, int x.1)] [(1000, 0, .row false (wrR x.2.2.1 ((x.2.1.length + 7) / 8) x.2.1.length)), (1001, x.2.2.1, .row (nl0 ((x.2.1.length + 7) / 8)) ((bytesB x.2.1).map u8)), (2, 1, .row false [.op 1000 0 0]), (7, 4, .row false [.sl false none (F.map nA), .sl false none (E.map nA)])])
   (fun x => x.1 ≤ Q.length ∧ x.2.1 = X3 ++ (Q.take x.1).flatMap (fun x => digB x 3) ∧ (∀ y ∈ x.2.1, y < 2) ∧ x.2.1.length ≤ 100014 + 3 * x.1 ∧ x.2.2.2 ≤ 300 + 61 * x.1) (fun x => Q.length - x.1) (0, X3, gc + 61 + 61 + 60, gc + 61 + 61 + 61) ⟨Nat.zero_le _, by simp, a3, by simp only; omega, by simp only; omega⟩ (le_mk rfl ?_ ?_ ?_) ?_
 · exact Nat.le_refl _
 iterate 2 (case _ => (first | exact yU @wrR.eq_1 | refine yR @wrR.eq_1 ?_))
 rintro ⟨k, X, g2, gd⟩ ⟨hk2, hX, hXb, hXl, hgd⟩ -
 simp only at hk2 hX hXb hXl hgd
 by_cases ck2 : k < Q.length
 · have dk : decide ((k : Int) < (Q.length : Int)) = true := decide_eq_true (by omega)
   obtain ⟨x, hx⟩ : ∃ x, x = Q.getD k 0 := ⟨_, rfl⟩
   have hgq : (Q.map nA).getD k .junk = .sc (.int .i64 (x : Int)) := by rw [hx]; exact getD_nA ck2
   have hx15 : x ≤ 15 := by rw [hx]; exact getD_le hQ15 ck2
   obtain ⟨Y, hY⟩ : ∃ Y, Y = X ++ digB x 3 := ⟨_, rfl⟩
   have py := put_y X (by omega) hXb x (by omega) 3 (by omega) Y hY
   have hYl := put_len hY
   repeat (first | refine zR (ja4 @dk @hgq @wrR.eq_1 @List.length_map.{0, 0}) ?_ | exact zU (ja4 @dk @hgq @wrR.eq_1 @List.length_map.{0, 0}))
   refine goC_h [(1000, 0), (1001, g2)] 2000 py (by simp) (by simp) ?_ ?_ ?_
   iterate 2 (case _ => (first | exact yU (ja2 @wrR.eq_1 iR) | refine yR (ja2 @wrR.eq_1 iR) ?_))
   repeat (first | refine zR (ja2 @wrR.eq_1 iR) ?_ | exact zU (ja2 @wrR.eq_1 iR))
   refine At.of (k + 1, Y, gd + 60, gd + 61) ⟨by simp only; omega, by simp only; rw [hY, hX, snocD (d := 0) ck2, ← hx, List.flatMap_append]; simp [List.append_assoc], put_lt hXb hY, by simp only; omega, by simp only; omega⟩ (by simp only; omega) rfl rfl (Nat.le_refl _) ?_ ?_
   iterate 2 (case _ => (first | exact yU @wrR.eq_1 | refine yR @wrR.eq_1 ?_))
 have dk : decide ((k : Int) < (Q.length : Int)) = false := decide_eq_false (by omega)
 obtain rfl : k = Q.length := by omega
 rw [List.take_of_length_le (Nat.le_refl _)] at hX
 have hB4 : X3 ++ (Q.flatMap (fun x => digB x 3) ++ T.flatMap (symB F)) = X ++ T.flatMap (symB F) := by rw [hX, List.append_assoc]
 rw [hB4] at hj ⊢
 clear hB4 hX
 repeat (first | refine zR (ja2 @dk @hAl) ?_ | exact zU (ja2 @dk @hAl))
 refine SWp.loop (α := Nat × List Nat × Nat × Nat) (fun x => mk 85 x.2.2.2 [(2, .op 2 1 0), (7, .op 7 4 0), (74, .sl (nl0 T.length) (some 3) A), (75, int T.length), (76, int x.1)] [(1000, 0, .row false (wrR x.2.2.1 ((x.2.1.length + 7) / 8) x.2.1.length)), (1001, x.2.2.1, .row (nl0 ((x.2.1.length + 7) / 8)) ((bytesB x.2.1).map u8)), (2, 1, .row false [.op 1000 0 0]), (7, 4, .row false [.sl false none (F.map nA), .sl false none (E.map nA)])])
   (fun x => x.1 ≤ T.length ∧ x.2.1 = X ++ (T.take x.1).flatMap (symB F) ∧ (∀ y ∈ x.2.1, y < 2) ∧ x.2.1.length ≤ 110000 + 39 * x.1 ∧ x.2.2.2 ≤ 20000 + 127 * x.1) (fun x => T.length - x.1) (0, X, g2, gd) ⟨Nat.zero_le _, by simp, hXb, by simp only; omega, by simp only; omega⟩ (le_mk rfl ?_ ?_ ?_) ?_
 · exact Nat.le_refl _
 iterate 2 (case _ => (first | exact yU @wrR.eq_1 | refine yR @wrR.eq_1 ?_))
 rintro ⟨k, Z, g3, ge⟩ ⟨hk3, hZ, hZb, hZl, hge⟩ -
 simp only at hk3 hZ hZb hZl hge
 by_cases ck3 : k < T.length
 · have dk : decide ((k : Int) < (T.length : Int)) = true := decide_eq_true (by omega)
   have hg := hgA k ck3
   obtain ⟨s, hs⟩ : ∃ s, s = T.getD k (0, 0, 0) := ⟨_, rfl⟩
   rw [← hs] at hg
   have hsT : s ∈ T := by
     have : T.getD k (0, 0, 0) = T[k] := by simp [List.getD, ck3]
     rw [hs, this]; exact List.getElem_mem _
   have hso := o1 s hsT
   have sy : SyOk F s := ⟨by rw [lF]; exact hso.num, by have := hso.more; omega, by have := hso.bits; omega⟩
   obtain ⟨Y, hY⟩ : ∃ Y, Y = Z ++ symB F s := ⟨_, rfl⟩
   have hYl : Y.length ≤ Z.length + 39 := by rw [hY, List.length_append]; have := symB_len oF sy; omega
   have ps := packer_symbol_h Z (by omega) hZb false F oF s sy Z.length ((Z.length + 7) / 8) rfl rfl Y.length (by rw [hY])
   rw [← hY, cdA, ← hE, syA] at ps
   repeat (first | refine zR (ja4 @dk @hg @hAl @wrR.eq_1) ?_ | exact zU (ja4 @dk @hg @hAl @wrR.eq_1))
   refine goC_h [(1000, 0), (1001, g3)] 2000 ps (by simp) (by simp) ?_ ?_ ?_
   iterate 2 (case _ => (first | exact yU (ja2 @wrR.eq_1 iR) | refine yR (ja2 @wrR.eq_1 iR) ?_))
   repeat (first | refine zR (ja2 @wrR.eq_1 iR) ?_ | exact zU (ja2 @wrR.eq_1 iR))
   refine At.of (k + 1, Y, ge + 1 + 125, ge + 1 + 126) ⟨by simp only; omega, by simp only; rw [hY, hZ, snocD (d := (0, 0, 0)) ck3, ← hs, List.flatMap_append]; simp [List.append_assoc], fun y hy => by simp only at hy; rw [hY] at hy; exact (List.mem_append.1 hy).elim (hZb y) (symB_lt y), by simp only; omega, by simp only; omega⟩ (by simp only; omega) rfl rfl (Nat.le_refl _) ?_ ?_
   iterate 2 (case _ => (first | exact yU @wrR.eq_1 | refine yR @wrR.eq_1 ?_))
 have dk : decide ((k : Int) < (T.length : Int)) = false := decide_eq_false (by omega)
 rw [List.take_of_length_le (by omega)] at hZ
 rw [← hZ] at hj ⊢
 rw [hj]
 iterate 4 (first | refine zR @dk ?_ | exact zU @dk)
 refine SWp.le (le_mk (N := 85) (gc := KE + 1) (l := []) (h := [(1000, 0, .row false (wrR g3 ((Z.length + 7) / 8) Z.length)), (1001, g3, .row (nl0 ((Z.length + 7) / 8)) ((bytesB Z).map u8))]) rfl ?_ ?_ ?_) ?_
 · have := KE_eq
   show ge ≤ KE + 1
   omega
 iterate 2 (case _ => (first | exact yU @wrR.eq_1 | refine yR @wrR.eq_1 ?_))
 refine SWp.renew 1001 g3 (o := .row (nl0 ((Z.length + 7) / 8)) ((bytesB Z).map u8)) (by (first | exact yT | refine yS ?_)) ?_
 refine SWp.le (le_mk (N := 85) (gc := KE + 2) (l := []) (h := [(1000, 0, .row false (wrR (KE + 1) ((Z.length + 7) / 8) Z.length)), (1001, KE + 1, .row (nl0 ((Z.length + 7) / 8)) ((bytesB Z).map u8))]) rfl ?_ ?_ ?_) ?_
 iterate 3 (case _ => (first | exact yU (ja5 @rgn_eq @rgH_at @renL_u8 iR @wrR.eq_1) | refine yR (ja5 @rgn_eq @rgH_at @renL_u8 iR @wrR.eq_1) ?_))
 repeat (first | refine zR (ja2 iR @wrR.eq_1) ?_ | exact zU (ja2 iR @wrR.eq_1))
end Go.Proofs.YtbcncdpaigljeaaGreatDoor.Aw
namespace Go.Proofs.YtbcncdpaigljeaaGreatDoor.Aw
open Go
set_option linter.unusedSimpArgs false
set_option linter.unusedVariables false
theorem flat3_len : ∀ {Q : List Nat}, (Q.flatMap fun x => digB x 3).length = 3 * Q.length
 | [] => rfl
 | x :: Q => by rw [List.flatMap_cons, List.length_append, length_digB, flat3_len, List.length_cons]; omega
theorem flatS_len {F : List Nat} (oF : LnOk F) : ∀ {T : List (Nat × Nat × Nat)}, (∀ s ∈ T, SyOk F s) → (T.flatMap (symB F)).length ≤ 39 * T.length
 | [], _ => Nat.le_refl _
 | s :: T, h => by
   rw [List.flatMap_cons, List.length_append, List.length_cons]
   have := symB_len oF (h s (by simp))
   have := flatS_len oF (T := T) fun t ht => h t (by simp [ht])
   omega
theorem tell_facts {l d : List Nat} (ol : LnOk l) (od : LnOk d) (l1 : l.length = 286) (d1 : d.length = 30) : (tellB l d).length ≤ 20000 ∧ ∀ x ∈ tellB l d, x < 2 := by
 have k1 := cutM_len (l := l) (q := 257) (by omega)
 have k2 := cutM_len (l := d) (q := 1) (by omega)
 have h15 : ∀ x ∈ tdL l d, x ≤ 15 := fun x hx => (List.mem_append.1 hx).elim (cutM_le ol.small x) (cutM_le od.small x)
 have kl : (tdL l d).length ≤ 320 := by rw [tdL, List.length_append]; omega
 obtain ⟨o1, o2⟩ := tls_ok h15
 have oF : LnOk (tdF l d) := lens_LnOk (ctT_ok (by omega))
 have lF : (tdF l d).length = 19 := by rw [tdF, length_lens, ctT, length_ctN]
 have lV : (tdO (tdF l d)).length = 19 := by rw [tdO, List.length_map]; rfl
 have k3 := cutM_len (l := tdO (tdF l d)) (q := 4) (by omega)
 have sy : ∀ s ∈ tls (tdL l d), SyOk (tdF l d) s := fun s hs => ⟨by rw [lF]; exact (o1 s hs).num, by have := (o1 s hs).more; omega, by have := (o1 s hs).bits; omega⟩
 have kT := flatS_len oF sy
 constructor
 · rw [tellB]
   simp only [List.length_append, length_digB]
   rw [flat3_len]
   omega
 · intro x hx
   rw [tellB] at hx
   rcases List.mem_append.1 hx with hx | hx
   · exact digB_lt x hx
   rcases List.mem_append.1 hx with hx | hx
   · exact digB_lt x hx
   rcases List.mem_append.1 hx with hx | hx
   · exact digB_lt x hx
   rcases List.mem_append.1 hx with hx | hx
   · obtain ⟨y, _, hx⟩ := List.mem_flatMap.1 hx
     exact digB_lt x hx
   · obtain ⟨y, _, hx⟩ := List.mem_flatMap.1 hx
     exact symB_lt x hx
def bsL (P : List (Nat × Nat)) : List Nat := lensB (litCt P) 15
def bsD (P : List (Nat × Nat)) : List Nat := lensB (dstCt P) 15
def dynB (P : List (Nat × Nat)) : List Nat := digB 1 1 ++ digB 2 2 ++ (tellB (bsL P) (bsD P) ++ pcsB (bsL P) (bsD P) P)
theorem bs_facts {P : List (Nat × Nat)} (h : P.length ≤ 20000) : LnOk (bsL P) ∧ LnOk (bsD P) ∧ (bsL P).length = 286 ∧ (bsD P).length = 30 :=
 ⟨lens_LnOk (litCt_ok h), lens_LnOk (dstCt_ok h), by rw [bsL, length_lens, litCt, length_ctN], by rw [bsD, length_lens, dstCt, length_ctN]⟩
set_option maxHeartbeats 1000000 in
set_option maxRecDepth 100000 in
theorem packer_dynamic_h [Tabs Tryz.prog] (ht : Tabs.tab Tryz.prog 0 = some (tlO.map nA)) (L : List Nat) (hl : L.length ≤ 50000) (hL : ∀ x ∈ L, x < 2) (nl : Bool) (P : List (Nat × Nat)) (hP : P.length ≤ 20000) (hok : ∀ p ∈ P, pcOk p) (i m : Nat) (hi : i = L.length) (hm : m = (L.length + 7) / 8) (j : Nat) (hj : j = (L ++ dynB P).length) :
   HCon Tryz.prog n_deflate_packer_dynamic [.agg [.op 1000 0 0], .sl nl (some 2) (P.map pcA)] [.row false (wrR 0 m i), .row (nl0 m) ((bytesB L).map u8)] (.tup [])
     [(1000, 0, .row false (wrR (127 + (KE + 2) + (KE + 1)) ((j + 7) / 8) j)), (1001, 127 + (KE + 2) + (KE + 1), .row (nl0 ((j + 7) / 8)) ((bytesB (L ++ dynB P)).map u8))] (127 + (KE + 2) + (KE + 2)) := by
 refine HCon.of' mix Tryz.func23 rfl Tryz.ntmps23 e_deflate_packer_dynamic r_deflate_packer_dynamic (by simp) ?_ wr_gl ?_
 · simp only [AV.gl.glL, AV.gl, and_true, true_and]
   exact ⟨by omega, glL_of_free _ _ free_pcs⟩
 unfold s_deflate_packer_dynamic
 obtain ⟨ol, od, l1, d1⟩ := bs_facts hP
 obtain ⟨t1, t2⟩ := tell_facts ol od l1 d1
 obtain ⟨X, hX⟩ : ∃ X, X = L ++ (digB 1 1 ++ digB 2 2) := ⟨_, rfl⟩
 obtain ⟨Z, hZ⟩ : ∃ Z, Z = X ++ tellB (bsL P) (bsD P) := ⟨_, rfl⟩
 obtain ⟨Y, hY⟩ : ∃ Y, Y = L ++ dynB P := ⟨_, rfl⟩
 have hXl : X.length = i + 1 + 2 := by rw [hX, List.length_append, List.length_append, length_digB, length_digB, hi]
 have hX2 : ∀ x ∈ X, x < 2 := fun x hx => by
   rw [hX] at hx
   rcases List.mem_append.1 hx with hx | hx
   · exact hL x hx
   · rcases List.mem_append.1 hx with hx | hx <;> exact digB_lt x hx
 have hZl : Z.length ≤ i + 1 + 2 + 20000 := by rw [hZ, List.length_append]; omega
 have hZ2 : ∀ x ∈ Z, x < 2 := fun x hx => by rw [hZ] at hx; exact (List.mem_append.1 hx).elim (hX2 x) (t2 x)
 have hYe : Z ++ pcsB (bsL P) (bsD P) P = Y := by rw [hZ, hX, hY, dynB]; simp only [List.append_assoc]
 have p1 := packer_begin_h L (by omega) hL 1 2 (by omega) (by omega) i m hi hm
 have p2 := packer_tell_h ht X (by omega) hX2 (bsL P) (bsD P) ol od l1 d1 (i + 1 + 2) ((i + 1 + 2 + 7) / 8) hXl.symm (by rw [hXl]) Z.length (by rw [hZ])
 have p3 := packer_pieces_h Z (by omega) hZ2 nl P hP hok (bsL P) (bsD P) ol od (by omega) (by omega) Z.length ((Z.length + 7) / 8) rfl rfl j (by rw [hYe, hj, hY])
 have pb := bestCodes_c nl P hP hok
 rw [← bsL, ← bsD] at pb
 rw [hYe] at p3
 rw [← hZ] at p2
 rw [← hY]
 rw [← hX] at p1
 have hrF : ∀ ρ, ren.renL ρ ((bsL P).map nA) = (bsL P).map nA := fun ρ => renL_free ρ _ free_nA
 obtain ⟨l, hl2⟩ : ∃ F, F = bsL P := ⟨_, rfl⟩
 obtain ⟨d, hd2⟩ : ∃ F, F = bsD P := ⟨_, rfl⟩
 rw [← hl2, ← hd2] at p2 p3 pb
 obtain ⟨A, hA⟩ : ∃ A, A = P.map pcA := ⟨_, rfl⟩
 have hrA : ∀ ρ, ren.renL ρ A = A := fun ρ => by rw [hA]; exact renL_free ρ _ free_pcs
 have fA : AV.free.freeL A = true := by rw [hA]; exact free_pcs
 rw [← hA] at p3 pb ⊢
 obtain ⟨C, hC⟩ : ∃ C, C = codesL l := ⟨_, rfl⟩
 obtain ⟨D, hD⟩ : ∃ D, D = codesL d := ⟨_, rfl⟩
 rw [cdsA, ← hC, ← hD] at p2 p3 pb
 repeat (first | refine zS ?_ | exact zT)
 refine goC_p _ (.inl ⟨by simp only [AV.free, AV.free.freeL, fA, Bool.and_self], pb⟩) ?_
 repeat (first | refine zS ?_ | exact zT)
 refine goC_h [(1000, 0), (1001, 0)] 2000 p1 (by simp) (by simp) ?_ ?_ ?_
 iterate 2 (case _ => (first | exact yU (ja2 @wrR.eq_1 iR) | refine yR (ja2 @wrR.eq_1 iR) ?_))
 repeat (first | refine zR (ja2 @wrR.eq_1 iR) ?_ | exact zU (ja2 @wrR.eq_1 iR))
 refine goC_h [(1000, 0), (1001, 126)] 3000 p2 (by simp) (by simp) ?_ ?_ ?_
 iterate 2 (case _ => (first | exact yU (ja2 @wrR.eq_1 iR) | refine yR (ja2 @wrR.eq_1 iR) ?_))
 repeat (first | refine zR (ja2 @wrR.eq_1 iR) ?_ | exact zU (ja2 @wrR.eq_1 iR))
 refine goC_h [(1000, 0), (1001, 127 + (KE + 1))] 4000 p3 (by simp) (by simp) ?_ ?_ ?_
 iterate 2 (case _ => (first | exact yU (ja3 @wrR.eq_1 iR @hrA) | refine yR (ja3 @wrR.eq_1 iR @hrA) ?_))
 repeat (first | refine zR (ja2 @wrR.eq_1 iR) ?_ | exact zU (ja2 @wrR.eq_1 iR))
end Go.Proofs.YtbcncdpaigljeaaGreatDoor.Aw
namespace Go.Proofs.YtbcncdpaigljeaaGreatDoor.Aw
open Go
set_option linter.unusedSimpArgs false
set_option linter.unusedVariables false
theorem bytesB_nil : bytesB [] = [] := rfl
theorem length_stL {b : List UInt8} : (stL b).length = b.length + 5 * ((b.length - 1) / 65535 + 1) := by
 rw [stL, List.length_append, length_stK (by omega), length_blkS, List.length_drop]; omega
set_option maxHeartbeats 1000000 in
set_option maxRecDepth 100000 in
theorem Deflate_0 [Tabs Tryz.prog] (nl : Bool) (b : List UInt8) (hb : b.length ≤ 170000) : Con Tryz.prog n_deflate_Deflate [.sl nl none (b.map u8), .sc (.int .i64 0)] (.tup [.sl false none ((stL b).map u8), .sc (.int .i64 0)]) := by
 refine Con.of' mix Tryz.func9 rfl Tryz.ntmps9 e_deflate_Deflate r_deflate_Deflate (by simp) (by simp only [AV.free, AV.free.freeL, free_u8, Bool.and_self]) (by simp only [AV.free, AV.free.freeL, free_u8, Bool.and_self]) ?_
 unfold s_deflate_Deflate
 obtain ⟨n, hn⟩ : ∃ n, n = (stL b).length := ⟨_, rfl⟩
 have hnl := length_stL (b := b)
 have hn0 : nl0 n = false := nl0_pos (by omega)
 have ps := packer_stored_h nl b hb n hn
 have pb := huff_WBytes_h n (8 * n) (stL b) hn.symm (by omega)
 have nw := huff_NewWriter_h
 have d : decide ((16777216 : Int) < (b.length : Int)) = false := decide_eq_false (by omega)
 obtain ⟨B, hB⟩ : ∃ B, B = stL b := ⟨_, rfl⟩
 rw [← hB] at ps pb ⊢
 rw [hn0] at ps pb
 repeat (first | refine zR (ja2 @d @List.length_map.{0, 0}) ?_ | exact zU (ja2 @d @List.length_map.{0, 0}))
 refine goC_h [] 2000 nw (by simp) (by simp) ?_ ?_ ?_
 iterate 2 (case _ => (first | exact yT | refine yS ?_))
 repeat (first | refine zR iR ?_ | exact zU iR)
 refine goC_h [(2002, 1), (2100, 2)] 3000 ps (by simp) (by simp) ?_ ?_ ?_
 iterate 2 (case _ => (first | exact yU (ja2 @wrR.eq_1 iR) | refine yR (ja2 @wrR.eq_1 iR) ?_))
 repeat (first | refine zR (ja2 @wrR.eq_1 iR) ?_ | exact zU (ja2 @wrR.eq_1 iR))
 refine goC_h [(2002, 1), (2100, 2255)] 4000 pb (by simp) (by simp) ?_ ?_ ?_
 iterate 2 (case _ => (first | exact yU (ja2 @wrR.eq_1 iR) | refine yR (ja2 @wrR.eq_1 iR) ?_))
 repeat (first | refine zR (ja2 @wrR.eq_1 iR) ?_ | exact zU (ja2 @wrR.eq_1 iR))
end Go.Proofs.YtbcncdpaigljeaaGreatDoor.Aw
namespace Go.Proofs.YtbcncdpaigljeaaGreatDoor.Aw
open Go
set_option linter.unusedSimpArgs false
set_option linter.unusedVariables false
theorem fixB_len {P : List (Nat × Nat)} (h : P.length ≤ 20000) (hok : ∀ p ∈ P, pcOk p) : 3 ≤ (fixB P).length ∧ (fixB P).length ≤ 2000000 := by
 rw [fixB, pcsB]
 simp only [List.length_append, length_digB]
 have h1 := flat_len fxL_ok fxD_ok fx_len.1 fx_len.2 hok
 have h2 := symB_len fxL_ok (end_ok fx_len.1)
 omega
theorem dynB_len {P : List (Nat × Nat)} (h : P.length ≤ 20000) (hok : ∀ p ∈ P, pcOk p) : 3 ≤ (dynB P).length ∧ (dynB P).length ≤ 2000000 := by
 obtain ⟨ol, od, l1, d1⟩ := bs_facts h
 have t1 := (tell_facts ol od l1 d1).1
 rw [dynB, pcsB]
 simp only [List.length_append, length_digB]
 have h1 := flat_len ol od (by omega) (by omega) hok
 have h2 := symB_len ol (end_ok (by omega))
 omega
def out1 (b : List UInt8) : List UInt8 := bytesB (fixB (pcsM b))
theorem length_out1 {b : List UInt8} : (out1 b).length = ((fixB (pcsM b)).length + 7) / 8 := length_bytesB
set_option maxHeartbeats 1000000 in
set_option maxRecDepth 100000 in
theorem Deflate_1 [Tabs Tryz.prog] (nl : Bool) (b : List UInt8) (hb : b.length ≤ 20000) : Con Tryz.prog n_deflate_Deflate [.sl nl none (b.map u8), .sc (.int .i64 1)] (.tup [.sl false none ((out1 b).map u8), .sc (.int .i64 0)]) := by
 refine Con.of' mix Tryz.func9 rfl Tryz.ntmps9 e_deflate_Deflate r_deflate_Deflate (by simp) (by simp only [AV.free, AV.free.freeL, free_u8, Bool.and_self]) (by simp only [AV.free, AV.free.freeL, free_u8, Bool.and_self]) ?_
 unfold s_deflate_Deflate
 obtain ⟨j, hj⟩ : ∃ j, j = (fixB (pcsM b)).length := ⟨_, rfl⟩
 have hj3 := fixB_len (pcsM_len hb) (pcsM_ok hb)
 rw [← hj] at hj3
 have hn0 : nl0 ((j + 7) / 8) = false := nl0_pos (by omega)
 have hol := length_out1 (b := b)
 rw [← hj] at hol
 have pc := piecesOf_c nl b hb
 have ps := packer_fixed_h [] (by simp) (by simp) (nl0 (pcsM b).length) (pcsM b) (pcsM_len hb) (pcsM_ok hb) 0 0 rfl rfl j hj
 rw [List.nil_append, bytesB_nil, ← out1] at ps
 obtain ⟨q, hq⟩ : ∃ q, 126 + (KE + 1) = q + 1 := ⟨126 + KE, by omega⟩
 have hq2 : 126 + (KE + 2) = q + 2 := by omega
 rw [hq, hq2] at ps
 have pb := huff_WBytes_h ((j + 7) / 8) j (out1 b) hol (by omega)
 have nw := huff_NewWriter_h
 have d : decide ((16777216 : Int) < (b.length : Int)) = false := decide_eq_false (by omega)
 obtain ⟨B, hB⟩ : ∃ B, B = out1 b := ⟨_, rfl⟩
 rw [← hB] at ps pb ⊢
 rw [hn0] at ps pb
 obtain ⟨P, hP⟩ : ∃ P, P = (pcsM b).map pcA := ⟨_, rfl⟩
 have hrP : ∀ ρ, ren.renL ρ P = P := fun ρ => by rw [hP]; exact renL_free ρ _ free_pcs
 rw [← hP] at pc ps
 repeat (first | refine zR (ja2 @d @List.length_map.{0, 0}) ?_ | exact zU (ja2 @d @List.length_map.{0, 0}))
 refine goC_h [] 2000 nw (by simp) (by simp) ?_ ?_ ?_
 iterate 2 (case _ => (first | exact yT | refine yS ?_))
 repeat (first | refine zR iR ?_ | exact zU iR)
 refine goC_p _ (.inl ⟨by simp only [AV.free, AV.free.freeL, free_u8, Bool.and_self], pc⟩) ?_
 repeat (first | refine zR iR ?_ | exact zU iR)
 refine goC_h [(2002, 1), (2100, 2)] 3000 ps (by simp) (by simp) ?_ ?_ ?_
 iterate 2 (case _ => (first | exact yU (ja4 @wrR.eq_1 iR @hrP @nl00) | refine yR (ja4 @wrR.eq_1 iR @hrP @nl00) ?_))
 repeat (first | refine zR (ja2 @wrR.eq_1 iR) ?_ | exact zU (ja2 @wrR.eq_1 iR))
 refine goC_h [(2002, 1), (2100, 4 + (q + 1))] 4000 pb (by simp) (by simp) ?_ ?_ ?_
 iterate 2 (case _ => (first | exact yU (ja2 @wrR.eq_1 iR) | refine yR (ja2 @wrR.eq_1 iR) ?_))
 repeat (first | refine zR (ja2 @wrR.eq_1 iR) ?_ | exact zU (ja2 @wrR.eq_1 iR))
def out2 (b : List UInt8) : List UInt8 := bytesB (dynB (pcsM b))
theorem length_out2 {b : List UInt8} : (out2 b).length = ((dynB (pcsM b)).length + 7) / 8 := length_bytesB
set_option maxHeartbeats 1000000 in
set_option maxRecDepth 100000 in
theorem Deflate_2 [Tabs Tryz.prog] (ht : Tabs.tab Tryz.prog 0 = some (tlO.map nA)) (nl : Bool) (b : List UInt8) (hb : b.length ≤ 20000) : Con Tryz.prog n_deflate_Deflate [.sl nl none (b.map u8), .sc (.int .i64 2)] (.tup [.sl false none ((out2 b).map u8), .sc (.int .i64 0)]) := by
 refine Con.of' mix Tryz.func9 rfl Tryz.ntmps9 e_deflate_Deflate r_deflate_Deflate (by simp) (by simp only [AV.free, AV.free.freeL, free_u8, Bool.and_self]) (by simp only [AV.free, AV.free.freeL, free_u8, Bool.and_self]) ?_
 unfold s_deflate_Deflate
 obtain ⟨j, hj⟩ : ∃ j, j = (dynB (pcsM b)).length := ⟨_, rfl⟩
 have hj3 := dynB_len (pcsM_len hb) (pcsM_ok hb)
 rw [← hj] at hj3
 have hn0 : nl0 ((j + 7) / 8) = false := nl0_pos (by omega)
 have hol := length_out2 (b := b)
 rw [← hj] at hol
 have pc := piecesOf_c nl b hb
 have ps := packer_dynamic_h ht [] (by simp) (by simp) (nl0 (pcsM b).length) (pcsM b) (pcsM_len hb) (pcsM_ok hb) 0 0 rfl rfl j hj
 rw [List.nil_append, bytesB_nil, ← out2] at ps
 obtain ⟨q, hq⟩ : ∃ q, 127 + (KE + 2) + (KE + 1) = q + 1 := ⟨127 + (KE + 2) + KE, by omega⟩
 have hq2 : 127 + (KE + 2) + (KE + 2) = q + 2 := by omega
 rw [hq, hq2] at ps
 have pb := huff_WBytes_h ((j + 7) / 8) j (out2 b) hol (by omega)
 have nw := huff_NewWriter_h
 have d : decide ((16777216 : Int) < (b.length : Int)) = false := decide_eq_false (by omega)
 obtain ⟨B, hB⟩ : ∃ B, B = out2 b := ⟨_, rfl⟩
 rw [← hB] at ps pb ⊢
 rw [hn0] at ps pb
 obtain ⟨P, hP⟩ : ∃ P, P = (pcsM b).map pcA := ⟨_, rfl⟩
 have hrP : ∀ ρ, ren.renL ρ P = P := fun ρ => by rw [hP]; exact renL_free ρ _ free_pcs
 rw [← hP] at pc ps
 repeat (first | refine zR (ja2 @d @List.length_map.{0, 0}) ?_ | exact zU (ja2 @d @List.length_map.{0, 0}))
 refine goC_h [] 2000 nw (by simp) (by simp) ?_ ?_ ?_
 iterate 2 (case _ => (first | exact yT | refine yS ?_))
 repeat (first | refine zR iR ?_ | exact zU iR)
 refine goC_p _ (.inl ⟨by simp only [AV.free, AV.free.freeL, free_u8, Bool.and_self], pc⟩) ?_
 repeat (first | refine zR iR ?_ | exact zU iR)
 refine goC_h [(2002, 1), (2100, 2)] 3000 ps (by simp) (by simp) ?_ ?_ ?_
 iterate 2 (case _ => (first | exact yU (ja4 @wrR.eq_1 iR @hrP @nl00) | refine yR (ja4 @wrR.eq_1 iR @hrP @nl00) ?_))
 repeat (first | refine zR (ja2 @wrR.eq_1 iR) ?_ | exact zU (ja2 @wrR.eq_1 iR))
 refine goC_h [(2002, 1), (2100, 4 + (q + 1))] 4000 pb (by simp) (by simp) ?_ ?_ ?_
 iterate 2 (case _ => (first | exact yU (ja2 @wrR.eq_1 iR) | refine yR (ja2 @wrR.eq_1 iR) ?_))
 repeat (first | refine zR (ja2 @wrR.eq_1 iR) ?_ | exact zU (ja2 @wrR.eq_1 iR))
end Go.Proofs.YtbcncdpaigljeaaGreatDoor.Aw
namespace Go.Proofs.YtbcncdpaigljeaaGreatDoor.Aw
open Go
set_option linter.unusedSimpArgs false
set_option linter.unusedVariables false
theorem k2 : AV.sc (.int .u32 2) = w32 2 := rfl
theorem kF : AV.sc (.int .u32 4294967295) = w32 4294967295 := rfl
theorem rem2 {c : UInt32} : aBin .rem (w32 c) (w32 2) = (True, w32 (c % 2)) := w32_rem (by decide)
theorem quo2 {c : UInt32} : aBin .quo (w32 c) (w32 2) = (True, w32 (c / 2)) := w32_quo (by decide)
theorem and_one (c : UInt32) : (c &&& 1 = 0) ↔ ¬ (c % 2 = 1) := by
 have h1 : (c &&& 1).toNat = c.toNat % 2 := by rw [UInt32.toNat_and]; exact Nat.and_one_is_mod _
 have h2 : (c % 2).toNat = c.toNat % 2 := by rw [UInt32.toNat_mod]; rfl
 rw [← UInt32.toNat_inj, ← UInt32.toNat_inj, h1, h2]
 show c.toNat % 2 = 0 ↔ ¬ c.toNat % 2 = 1
 omega
theorem div_two (c : UInt32) : c / 2 = UInt32.ofNat (c.toNat / 2) := by
 apply UInt32.toNat_inj.1
 have := c.toNat_lt
 rw [UInt32.toNat_div, UInt32.toNat_ofNat', Nat.mod_eq_of_lt (by omega)]; rfl
set_option maxRecDepth 100000 in
theorem ref_Crc_c [Tabs Tryz.prog] (nl : Bool) (l : List UInt8) (hl : l.length ≤ 1000000) : Con Tryz.prog n_drayageref02_Crc [.sl nl none (l.map u8)] (w32 (crcMore 0 l)) := by
 refine Con.of' mix Tryz.func42 rfl Tryz.ntmps42 e_drayageref02_Crc r_drayageref02_Crc (by simp) (by simp only [AV.free.freeL, AV.free, free_u8, Bool.and_self]) rfl ?_
 unfold s_drayageref02_Crc
 have hm : crcMore 0 l = ~~~(crcL 4294967295 l) := rfl
 repeat (first | refine zR @kF ?_ | exact zU @kF)
 refine SWp.loop (α := Nat) (fun k => mk 34 0 [(0, .sl nl none (l.map u8)), (3, w32 (crcL 4294967295 (l.take k))), (4, int k)] [])
   (fun k => k ≤ l.length) (fun k => l.length - k) 0 (Nat.zero_le _) (le_mk rfl ?_ ?_ ?_) ?_
 · exact Nat.le_refl _
 · (first | exact yT | refine yS ?_)
   rfl
 · (first | exact yT | refine yS ?_)
 rintro k hk -
 repeat (first | refine zS ?_ | exact zT)
 refine SWp.cond rfl (fun h => ?_) (fun h => ?_)
 · simp only [decide_eq_true_eq] at h
   have hk' : k < l.length := by omega
   have hs : crcL 4294967295 (l.take (k + 1)) = crcN (crcL 4294967295 (l.take k) ^^^ UInt32.ofNat (l.getD k 0).toNat) 8 := by rw [snoc_take l k hk', crcL_snoc]; rfl
   obtain ⟨c, hc⟩ : ∃ c, c = crcL 4294967295 (l.take k) ^^^ UInt32.ofNat (l.getD k 0).toNat := ⟨_, rfl⟩
   rw [← hc] at hs
   repeat (first | refine zR hc.symm ?_ | exact zU hc.symm)
   refine SWp.loop (α := Nat) (fun j => mk 34 0 [(0, .sl nl none (l.map u8)), (3, w32 (crcN c j)), (4, int k), (5, int j)] [])
     (fun j => j ≤ 8) (fun j => 8 - j) 0 (Nat.zero_le _) (le_mk rfl ?_ ?_ ?_) ?_
   · exact Nat.le_refl _
   iterate 2 (case _ => (first | exact yU (ja3 @crcN.eq_1 @crcN.eq_2 hc.symm) | refine yR (ja3 @crcN.eq_1 @crcN.eq_2 hc.symm) ?_))
   rintro j hj -
   repeat (first | refine zS ?_ | exact zT)
   refine SWp.cond rfl (fun h => ?_) (fun h => ?_)
   · simp only [decide_eq_true_eq] at h
     by_cases c0 : crcN c j % 2 = 1
     · have d0 := decide_eq_true c0
       have he : crcN c (j + 1) = crcN c j / 2 ^^^ 3988292384 := by simp only [crcN, crcStep]; rw [if_neg (fun h => (and_one _).1 h c0), div_two]
       repeat (first | refine zR (ja6 @d0 @k1 @k2 @kP @rem2 @quo2) ?_ | exact zU (ja6 @d0 @k1 @k2 @kP @rem2 @quo2))
       refine At.of (j + 1) (by omega) (by omega) rfl rfl (Nat.le_refl _) ?_ ?_
       iterate 2 (case _ => (first | exact yU @he | refine yR @he ?_))
     · have d0 := decide_eq_false c0
       have he : crcN c (j + 1) = crcN c j / 2 := by simp only [crcN, crcStep]; rw [if_pos ((and_one _).2 c0), div_two]
       repeat (first | refine zR (ja6 @d0 @k1 @k2 @kP @rem2 @quo2) ?_ | exact zU (ja6 @d0 @k1 @k2 @kP @rem2 @quo2))
       refine At.of (j + 1) (by omega) (by omega) rfl rfl (Nat.le_refl _) ?_ ?_
       iterate 2 (case _ => (first | exact yU @he | refine yR @he ?_))
   · simp only [decide_eq_false_iff_not] at h
     obtain rfl : j = 8 := by omega
     repeat (first | refine zS ?_ | exact zT)
     refine At.of (k + 1) (by omega) (by omega) rfl rfl (Nat.le_refl _) ?_ ?_
     iterate 2 (case _ => (first | exact yU @hs | refine yR @hs ?_))
 · simp only [decide_eq_false_iff_not] at h
   obtain rfl : k = l.length := by omega
   repeat (first | refine zR (ja2 @List.take_length.{0} @hm) ?_ | exact zU (ja2 @List.take_length.{0} @hm))
end Go.Proofs.YtbcncdpaigljeaaGreatDoor.Aw
namespace Go.Proofs.YtbcncdpaigljeaaGreatDoor.Aw
open Go
set_option linter.unusedSimpArgs false
set_option linter.unusedVariables false
theorem leB_succ (n k : Nat) : (leB n (k + 1)).reverse = UInt8.ofNat (n / 2 ^ (8 * k)) :: (leB n k).reverse := by
 simp [leB, List.range_succ]
set_option maxRecDepth 100000 in
theorem ref_Be_c [Tabs Tryz.prog] (n : Nat) (hn : n < 18446744073709551616) (size : Int) (h1 : -9223372036854775808 ≤ size) (h2 : size ≤ 9223372036854775807) : Con Tryz.prog n_drayageref01_Be [.sc (.int .u64 n), int size] (beR n size) := by
 refine Con.of' mix Tryz.func72 rfl Tryz.ntmps72 e_drayageref01_Be r_drayageref01_Be (by simp) rfl (by unfold beR; split <;> simp only [AV.free, free_u8]) ?_
 unfold s_drayageref01_Be
 by_cases c1 : size < 1
 · have d1 : decide (size < 1) = true := decide_eq_true c1
   have hu : beR n size = .sc (.slice none 0 0) := if_pos (.inl c1)
   repeat (first | refine xR (ja2 @d1 @hu) ?_ | exact xU (ja2 @d1 @hu))
 · have d1 : decide (size < 1) = false := decide_eq_false c1
   by_cases c2 : 8 < size
   · have d2 : decide (8 < size) = true := decide_eq_true c2
     have hu : beR n size = .sc (.slice none 0 0) := if_pos (.inr c2)
     repeat (first | refine xR (ja3 @d1 @d2 @hu) ?_ | exact xU (ja3 @d1 @d2 @hu))
   · have d2 : decide (8 < size) = false := decide_eq_false c2
     have hu : beR n size = .sl false none ((leB n size.toNat).reverse.map u8) := if_neg (by omega)
     obtain ⟨m, rfl⟩ : ∃ m : Nat, size = m := ⟨size.toNat, by omega⟩
     repeat (first | refine xR (ja2 @d1 @d2) ?_ | exact xU (ja2 @d1 @d2))
     refine SWp.le (le_mk (N := 27) (gc := 1) (l := [(0, .sc (.int .u64 n)), (1, int m), (5, .sc (.slice none 0 0)), (6, int 0)]) (h := []) rfl (Nat.zero_le _) (by (first | exact vT | refine vS ?_)) (by (first | exact vT | refine vS ?_))) ?_
     refine SWp.adopt 5 none (by (first | exact vT | refine vS ?_)) ?_
     refine SWp.swap 5 21 (by (first | exact vU (ja2 @genOk.eq_1 @genOk.eq_2) | refine vR (ja2 @genOk.eq_1 @genOk.eq_2) ?_)) (by (first | exact vU (ja2 @genOk.eq_1 @genOk.eq_2) | refine vR (ja2 @genOk.eq_1 @genOk.eq_2) ?_)) ?_
     refine SWp.loop (α := Nat × Nat × Nat × Nat) (fun x => mk 27 x.2.2.1 [(0, .sc (.int .u64 x.2.2.2)), (1, int m), (5, .own 21 x.2.1 none 0 x.1), (6, int x.1)] [(21, x.2.1, .row (nl0 x.1) ((leB n x.1).reverse.map u8))])
       (fun x => x.1 ≤ m ∧ 1 ≤ x.2.1 ∧ x.2.2.2 = n / 2 ^ (8 * x.1) ∧ x.2.2.2 < 18446744073709551616) (fun x => m - x.1) (0, 1, 2, n) ⟨Nat.zero_le _, Nat.le_refl _, by simp, hn⟩ (le_mk rfl ?_ ?_ ?_) ?_
     · exact Nat.le_refl _
     iterate 2 (case _ => (first | exact vU (ja7 @sw.eq_1 @swr_eq @swH.eq_1 @leB.eq_1 @List.range_zero @List.reverse_nil.{0} @nl0_zero) | refine vR (ja7 @sw.eq_1 @swr_eq @swH.eq_1 @leB.eq_1 @List.range_zero @List.reverse_nil.{0} @nl0_zero) ?_))
     · rintro ⟨k, g, c, v⟩ ⟨hk, hg, hv, hle⟩ -
       simp only at hk hg hv hle
       refine SWp.swap 21 2021 (by (first | exact vU (ja2 @genOk.eq_1 @genOk.eq_2) | refine vR (ja2 @genOk.eq_1 @genOk.eq_2) ?_); exact hg) (by (first | exact vU (ja2 @genOk.eq_1 @genOk.eq_2) | refine vR (ja2 @genOk.eq_1 @genOk.eq_2) ?_)) ?_
       refine SWp.le (le_mk (N := 27) (gc := c) (l := [(0, .sc (.int .u64 v)), (1, int m), (5, .own 2021 g none 0 k), (6, int k)]) (h := [(2021, g, .row (nl0 k) ((leB n k).reverse.map u8))]) rfl (Nat.le_refl _) (by (first | exact vU (ja2 @sw.eq_1 @swr_eq) | refine vR (ja2 @sw.eq_1 @swr_eq) ?_)) (by (first | exact vU (ja3 @sw.eq_1 @swr_eq @swH.eq_1) | refine vR (ja3 @sw.eq_1 @swr_eq @swH.eq_1) ?_))) ?_
       have hlk : (leB n k).reverse.length = k := by simp [leB]
       have hh : (leB n (k + 1)).reverse = UInt8.ofNat v :: (leB n k).reverse := by rw [hv]; exact leB_succ n k
       repeat (first | refine xS ?_ | exact xT)
       refine SWp.cond rfl (fun h => ?_) (fun h => ?_)
       · simp only [decide_eq_true_eq] at h
         have hk8 : k < m := by omega
         repeat (first | refine xR (ja2 @hlk @wrap_u64_id) ?_ | exact xU (ja2 @hlk @wrap_u64_id))
         refine At.of (k + 1, c + 1, c + 2, v / 256) ⟨by simp only; omega, by simp only; omega, by simp only; rw [hv, Nat.div_div_eq_div_mul, show 8 * (k + 1) = 8 * k + 8 by omega, Nat.pow_add], by simp only; omega⟩ (by simp only; omega) rfl rfl (Nat.le_refl _) ?_ ?_
         · (first | exact vT | refine vS ?_)
           omega
         · (first | exact vU (ja3 @hh @nl0_succ @UInt8.toNat_ofNat') | refine vR (ja3 @hh @nl0_succ @UInt8.toNat_ofNat') ?_)
       · simp only [decide_eq_false_iff_not] at h
         obtain rfl : k = m := by omega
         repeat (first | refine xR (ja4 @hlk @hu @nl0_pos @List.take_of_length_le.{0}) ?_ | exact xU (ja4 @hlk @hu @nl0_pos @List.take_of_length_le.{0}))
set_option maxRecDepth 100000 in
theorem ref_Turned_c [Tabs Tryz.prog] (nl : Bool) (l : List UInt8) (hl : l.length ≤ 1000000) : Con Tryz.prog n_drayageref01_Turned [.sl nl none (l.map u8)] (.sl (nl0 l.length) none (l.reverse.map u8)) := by
 refine Con.of' mix Tryz.func71 rfl Tryz.ntmps71 e_drayageref01_Turned r_drayageref01_Turned (by simp) (by simp only [AV.free, AV.free.freeL, free_u8, Bool.and_self]) (by simp only [AV.free, free_u8]) ?_
 unfold s_drayageref01_Turned
 repeat (first | refine xS ?_ | exact xT)
 refine SWp.adopt 3 none (by (first | exact vT | refine vS ?_)) ?_
 refine SWp.loop (α := Nat × Nat × Nat) (fun x => mk 20 x.2.2 [(0, .sl nl none (l.map u8)), (3, .own 3 x.2.1 none 0 x.1), (4, int ((l.length : Int) - 1 - x.1))] [(3, x.2.1, .row (nl0 x.1) ((l.reverse.take x.1).map u8))])
   (fun x => x.1 ≤ l.length) (fun x => l.length - x.1) (0, 0, 1) (Nat.zero_le _) (le_mk rfl ?_ ?_ ?_) ?_
 · exact Nat.le_refl _
 iterate 2 (case _ => (first | exact vU @nl0_zero | refine vR @nl0_zero ?_))
 · rintro ⟨k, g, c⟩ hk -
   simp only at hk
   have hlk : (l.reverse.take k).length = k := by simp; omega
   have hrl : l.reverse.length = l.length := List.length_reverse
   repeat (first | refine xS ?_ | exact xT)
   refine SWp.cond rfl (fun h => ?_) (fun h => ?_)
   · simp only [decide_eq_true_eq] at h
     have hk8 : k < l.length := by omega
     have hj : (l.length : Int) - 1 - (k : Int) = ((l.length - 1 - k : Nat) : Int) := by omega
     have hs := take_snoc l.reverse k (by omega)
     have hg : l.reverse.getD k 0 = l.getD (l.length - 1 - k) 0 := by
       simp only [List.getD]
       rw [List.getElem?_reverse hk8]
     repeat (first | refine xR (ja2 @hlk @hj) ?_ | exact xU (ja2 @hlk @hj))
     refine At.of (k + 1, c, c + 1) (by simp only; omega) (by simp only; omega) rfl rfl (Nat.le_refl _) ?_ ?_
     · (first | exact vT | refine vS ?_)
       omega
     · (first | exact vU (ja3 @hs @hg @nl0_succ) | refine vR (ja3 @hs @hg @nl0_succ) ?_)
   · simp only [decide_eq_false_iff_not] at h
     obtain rfl : k = l.length := by omega
     repeat (first | refine xR (ja3 @hlk @hrl @List.take_of_length_le.{0}) ?_ | exact xU (ja3 @hlk @hrl @List.take_of_length_le.{0}))
end Go.Proofs.YtbcncdpaigljeaaGreatDoor.Aw
namespace Go.Proofs.YtbcncdpaigljeaaGreatDoor.Aw
open Go
set_option linter.unusedSimpArgs false
set_option linter.unusedVariables false
set_option maxRecDepth 100000 in
theorem ref_Find_c [Tabs Tryz.prog] (s : ByteArray) (hs : s.data.toList.length ≤ 1000000) (c : UInt8) : Con Tryz.prog n_drayageref01_Find [.sc (.string s), .sc (.int .u8 c.toNat)] (.sc (.int .i64 (Lib.indexByte s.data.toList c))) := by
 refine Con.of' mix Tryz.func40 rfl Tryz.ntmps40 e_drayageref01_Find r_drayageref01_Find (by simp) rfl rfl ?_
 unfold s_drayageref01_Find
 repeat (first | refine zS ?_ | exact zT)
 refine SWp.loop (α := Nat) (fun k => mk 18 0 [(0, .sc (.string s)), (1, .sc (.int .u8 c.toNat)), (5, int k)] [])
   (fun k => k ≤ s.data.toList.length ∧ ∀ j, j < k → s.data.toList.getD j 0 ≠ c) (fun k => s.data.toList.length - k) 0 ⟨Nat.zero_le _, fun j hj => by omega⟩ (le_mk rfl (Nat.le_refl _) ?_ ?_) ?_
 iterate 2 (case _ => (first | exact yT | refine yS ?_))
 rintro k ⟨hk, hne⟩ -
 repeat (first | refine zS ?_ | exact zT)
 refine SWp.cond rfl (fun h => ?_) (fun h => ?_)
 · simp only [decide_eq_true_eq] at h
   have hk' : k < s.data.toList.length := by omega
   by_cases e : s.data.toList.getD k 0 = c
   · have d : decide (((s.data.toList.getD k 0).toNat : Int) = (c.toNat : Int)) = true := decide_eq_true (by rw [e])
     have hi := indexByte_some _ _ k hk' e hne
     repeat (first | refine zR (ja2 @d @hi) ?_ | exact zU (ja2 @d @hi))
   · have d : decide (((s.data.toList.getD k 0).toNat : Int) = (c.toNat : Int)) = false := decide_eq_false fun h => e (UInt8.toNat_inj.1 (by omega))
     repeat (first | refine zR @d ?_ | exact zU @d)
     refine At.of (k + 1) ⟨by omega, fun j hj => ?_⟩ (by omega) rfl rfl (Nat.le_refl _) ?_ ?_
     · by_cases ej : j = k
       · subst ej; exact e
       · exact hne j (by omega)
     iterate 2 (case _ => (first | exact yT | refine yS ?_))
 · simp only [decide_eq_false_iff_not] at h
   obtain rfl : k = s.data.toList.length := by omega
   have hi := indexByte_none _ _ hne
   repeat (first | refine zR @hi ?_ | exact zU @hi)
end Go.Proofs.YtbcncdpaigljeaaGreatDoor.Aw
namespace Go.Proofs.YtbcncdpaigljeaaGreatDoor.Aw
open Go
set_option linter.unusedSimpArgs false
set_option linter.unusedVariables false
def ansF (r : List UInt8 × Nat) : AV := if r.2 = 0 then .tup [.sl false none (r.1.map u8), int 0] else .tup [.sc (.slice none 0 0), int (r.2 : Int)]
def dflR (b : List UInt8) (how : Int) : List UInt8 × Nat := if how = 0 then (stL b, 0) else if how = 1 then (out1 b, 0) else if how = 2 then (out2 b, 0) else ([], 1)
set_option maxRecDepth 100000 in
theorem Deflate_bad [Tabs Tryz.prog] (nl : Bool) (b : List UInt8) (how : Int) (h : how < 0 ∨ 2 < how) : Con Tryz.prog n_deflate_Deflate [.sl nl none (b.map u8), int how] (.tup [.sc (.slice none 0 0), int 1]) := by
 refine Con.of' mix Tryz.func9 rfl Tryz.ntmps9 e_deflate_Deflate r_deflate_Deflate (by simp) (by simp only [AV.free, AV.free.freeL, free_u8, int, Bool.and_self]) rfl ?_
 unfold s_deflate_Deflate
 by_cases c : how < 0
 · have d := decide_eq_true c
   repeat (first | refine zR @d ?_ | exact zU @d)
 · have d := decide_eq_false c
   have d2 : decide (2 < how) = true := decide_eq_true (by omega)
   repeat (first | refine zR (ja2 @d @d2) ?_ | exact zU (ja2 @d @d2))
theorem Deflate_c [Tabs Tryz.prog] (ht : Tabs.tab Tryz.prog 0 = some (tlO.map nA)) (nl : Bool) (b : List UInt8) (hb : b.length ≤ 20000) (how : Int) : Con Tryz.prog n_deflate_Deflate [.sl nl none (b.map u8), int how] (ansF (dflR b how)) := by
 unfold dflR
 by_cases c0 : how = 0
 · subst c0; rw [if_pos rfl]; exact Deflate_0 nl b (by omega)
 rw [if_neg c0]
 by_cases c1 : how = 1
 · subst c1; rw [if_pos rfl]; exact Deflate_1 nl b hb
 rw [if_neg c1]
 by_cases c2 : how = 2
 · subst c2; rw [if_pos rfl]; exact Deflate_2 ht nl b hb
 rw [if_neg c2]
 exact Deflate_bad nl b how (by omega)
theorem dflR_len {b : List UInt8} (hb : b.length ≤ 20000) {how : Int} : (dflR b how).1.length ≤ 1000000 := by
 unfold dflR
 have h1 := length_out1 (b := b)
 have h2 := length_out2 (b := b)
 have h3 := fixB_len (pcsM_len (b := b) hb) (pcsM_ok hb)
 have h4 := dynB_len (pcsM_len (b := b) hb) (pcsM_ok hb)
 have h5 := length_stL (b := b)
 split
 · simp only; omega
 split
 · simp only; omega
 split
 · simp only; omega
 · simp
def badM (nm : List UInt8) (mt : Int) : Nat := if mt < 0 ∨ 4294967295 < mt then 1 else if 200 < nm.length ∨ 0 ≤ Lib.indexByte nm 0 then 10 else 0
set_option maxRecDepth 100000 in
theorem gz_Pack_bad [Tabs Tryz.prog] (nm : List UInt8) (mt : Int) (nl : Bool) (b : List UInt8) (how : Int) (h : badM nm mt ≠ 0) : Con Tryz.prog n_gzip_Pack [mbA ⟨nm.toArray⟩ mt nl b, int how] (.tup [.sc (.slice none 0 0), int (badM nm mt : Int)]) := by
 refine Con.of' mix Tryz.func13 rfl Tryz.ntmps13 e_gzip_Pack r_gzip_Pack (by simp) (by simp only [mbA, AV.free, AV.free.freeL, free_u8, int, Bool.and_self]) rfl ?_
 unfold s_gzip_Pack
 have p1 := strings_IndexByte_c ⟨nm.toArray⟩ 0
 rw [show (⟨nm.toArray⟩ : ByteArray).data.toList = nm from rfl] at p1
 unfold badM at h ⊢
 by_cases c1 : mt < 0
 · rw [if_pos (.inl c1)]
   have d1 := decide_eq_true c1
   repeat (first | refine zR (ja2 @mbA.eq_1 @d1) ?_ | exact zU (ja2 @mbA.eq_1 @d1))
 have d1 := decide_eq_false c1
 by_cases c2 : 4294967295 < mt
 · rw [if_pos (.inr c2)]
   have d2 := decide_eq_true c2
   repeat (first | refine zR (ja3 @mbA.eq_1 @d1 @d2) ?_ | exact zU (ja3 @mbA.eq_1 @d1 @d2))
 have d2 := decide_eq_false c2
 rw [if_neg (by omega)] at h ⊢
 by_cases c3 : 200 < nm.length
 · rw [if_pos (.inl c3)]
   have d3 : decide ((200 : Int) < (nm.length : Int)) = true := decide_eq_true (by omega)
   repeat (first | refine zR (ja4 @mbA.eq_1 @d1 @d2 @d3) ?_ | exact zU (ja4 @mbA.eq_1 @d1 @d2 @d3))
 have d3 : decide ((200 : Int) < (nm.length : Int)) = false := decide_eq_false (by omega)
 by_cases c4 : 0 ≤ Lib.indexByte nm 0
 · rw [if_pos (.inr c4)]
   have d4 := decide_eq_true c4
   repeat (first | refine zR (ja4 @mbA.eq_1 @d1 @d2 @d3) ?_ | exact zU (ja4 @mbA.eq_1 @d1 @d2 @d3))
   refine goC_p _ (.inl ⟨rfl, p1⟩) ?_
   repeat (first | refine zR (ja2 @mbA.eq_1 @d4) ?_ | exact zU (ja2 @mbA.eq_1 @d4))
 · exact absurd (if_neg (by omega)) h
set_option maxHeartbeats 1000000 in
set_option maxRecDepth 100000 in
theorem gz_Pack_no [Tabs Tryz.prog] (nm : List UInt8) (mt : Int) (nl : Bool) (b : List UInt8) (how : Int) (h : badM nm mt = 0) (e : Nat) (he : e ≠ 0) (hD : Con Tryz.prog n_deflate_Deflate [.sl nl none (b.map u8), int how] (.tup [.sc (.slice none 0 0), int (e : Int)])) : Con Tryz.prog n_gzip_Pack [mbA ⟨nm.toArray⟩ mt nl b, int how] (.tup [.sc (.slice none 0 0), int (e : Int)]) := by
 refine Con.of' mix Tryz.func13 rfl Tryz.ntmps13 e_gzip_Pack r_gzip_Pack (by simp) (by simp only [mbA, AV.free, AV.free.freeL, free_u8, int, Bool.and_self]) rfl ?_
 unfold s_gzip_Pack
 have p1 := strings_IndexByte_c ⟨nm.toArray⟩ 0
 rw [show (⟨nm.toArray⟩ : ByteArray).data.toList = nm from rfl] at p1
 have hh : ¬ mt < 0 ∧ ¬ 4294967295 < mt ∧ ¬ 200 < nm.length ∧ ¬ 0 ≤ Lib.indexByte nm 0 := by
   unfold badM at h
   split at h
   · cases h
   · split at h
     · cases h
     · omega
 have d1 := decide_eq_false hh.1
 have d2 := decide_eq_false hh.2.1
 have d3 : decide ((200 : Int) < (nm.length : Int)) = false := decide_eq_false (by omega)
 have d4 := decide_eq_false hh.2.2.2
 have d5 : decide ((e : Int) = 0) = false := decide_eq_false (by omega)
 repeat (first | refine zR (ja4 @mbA.eq_1 @d1 @d2 @d3) ?_ | exact zU (ja4 @mbA.eq_1 @d1 @d2 @d3))
 refine goC_p _ (.inl ⟨rfl, p1⟩) ?_
 repeat (first | refine zR @d4 ?_ | exact zU @d4)
 refine goC_p _ (.inl ⟨by simp only [AV.free, AV.free.freeL, int, free_u8, Bool.and_self], hD⟩) ?_
 repeat (first | refine zR @d5 ?_ | exact zU @d5)
set_option maxRecDepth 100000 in
theorem ref_Bad_c [Tabs Tryz.prog] (nm : List UInt8) (hn : nm.length ≤ 1000000) (mt : Int) (nl : Bool) (b : List UInt8) : Con Tryz.prog n_drayageref06_Bad [mbA ⟨nm.toArray⟩ mt nl b] (int (badM nm mt : Int)) := by
 refine Con.of' mix Tryz.func14 rfl Tryz.ntmps14 e_drayageref06_Bad r_drayageref06_Bad (by simp) (by simp only [mbA, AV.free, AV.free.freeL, free_u8, int, Bool.and_self]) rfl ?_
 unfold s_drayageref06_Bad
 have p1 := ref_Find_c ⟨nm.toArray⟩ hn 0
 rw [show (⟨nm.toArray⟩ : ByteArray).data.toList = nm from rfl] at p1
 unfold badM
 by_cases c1 : mt < 0
 · rw [if_pos (.inl c1)]
   have d1 := decide_eq_true c1
   repeat (first | refine zR (ja2 @mbA.eq_1 @d1) ?_ | exact zU (ja2 @mbA.eq_1 @d1))
 have d1 := decide_eq_false c1
 by_cases c2 : 4294967295 < mt
 · rw [if_pos (.inr c2)]
   have d2 := decide_eq_true c2
   repeat (first | refine zR (ja3 @mbA.eq_1 @d1 @d2) ?_ | exact zU (ja3 @mbA.eq_1 @d1 @d2))
 have d2 := decide_eq_false c2
 rw [if_neg (by omega)]
 by_cases c3 : 200 < nm.length
 · rw [if_pos (.inl c3)]
   have d3 : decide ((200 : Int) < (nm.length : Int)) = true := decide_eq_true (by omega)
   repeat (first | refine zR (ja4 @mbA.eq_1 @d1 @d2 @d3) ?_ | exact zU (ja4 @mbA.eq_1 @d1 @d2 @d3))
 have d3 : decide ((200 : Int) < (nm.length : Int)) = false := decide_eq_false (by omega)
 by_cases c4 : 0 ≤ Lib.indexByte nm 0
 · rw [if_pos (.inr c4)]
   have d4 := decide_eq_true c4
   repeat (first | refine zR (ja4 @mbA.eq_1 @d1 @d2 @d3) ?_ | exact zU (ja4 @mbA.eq_1 @d1 @d2 @d3))
   refine goC_p _ (.inl ⟨rfl, p1⟩) ?_
   repeat (first | refine zR (ja2 @mbA.eq_1 @d4) ?_ | exact zU (ja2 @mbA.eq_1 @d4))
 · rw [if_neg (by omega)]
   have d4 := decide_eq_false c4
   repeat (first | refine zR (ja4 @mbA.eq_1 @d1 @d2 @d3) ?_ | exact zU (ja4 @mbA.eq_1 @d1 @d2 @d3))
   refine goC_p _ (.inl ⟨rfl, p1⟩) ?_
   repeat (first | refine zR (ja2 @mbA.eq_1 @d4) ?_ | exact zU (ja2 @mbA.eq_1 @d4))
set_option maxRecDepth 100000 in
theorem ref_le_c [Tabs Tryz.prog] (n : Nat) (hn : n < 4294967296) : Con Tryz.prog n_drayageref06_le [.sc (.int .u64 (n : Int)), int 4] (.sl false none ((leB n 4).map u8)) := by
 refine Con.of' mix Tryz.func41 rfl Tryz.ntmps41 e_drayageref06_le r_drayageref06_le (by simp) rfl (by simp only [AV.free, free_u8]) ?_
 unfold s_drayageref06_le
 have p1 := ref_Be_c n (by omega) 4 (by omega) (by omega)
 rw [show beR n 4 = .sl false none ((leB n 4).reverse.map u8) from rfl] at p1
 have p2 := ref_Turned_c false (leB n 4).reverse (by rw [List.length_reverse, length_leB4]; omega)
 rw [List.reverse_reverse, List.length_reverse, length_leB4] at p2
 repeat (first | refine zS ?_ | exact zT)
 refine goC_p _ (.inl ⟨rfl, p1⟩) ?_
 repeat (first | refine zS ?_ | exact zT)
 refine goC_p _ (.inl ⟨by simp only [AV.free, AV.free.freeL, free_u8, Bool.and_self], p2⟩) ?_
 repeat (first | refine zR @nl0_succ ?_ | exact zU @nl0_succ)
set_option maxHeartbeats 1000000 in
set_option maxRecDepth 100000 in
theorem ref_Wrapped_c [Tabs Tryz.prog] (nm : List UInt8) (hn : nm.length ≤ 200) (mt : Nat) (hm : mt < 4294967296) (nl : Bool) (b : List UInt8) (hb : b.length ≤ 20000) (K : List UInt8) (hK : K.length ≤ 1000000) :
   Con Tryz.prog n_drayageref06_Wrapped [mbA ⟨nm.toArray⟩ (mt : Int) nl b, .sl false none (K.map u8)] (.sl false none ((hdB nm mt ++ (K ++ tlB b)).map u8)) := by
 refine Con.of' mix Tryz.func15 rfl Tryz.ntmps15 e_drayageref06_Wrapped r_drayageref06_Wrapped (by simp) (by simp only [mbA, AV.free, AV.free.freeL, free_u8, int, Bool.and_self]) (by simp only [AV.free, free_u8]) ?_
 unfold s_drayageref06_Wrapped
 have hc := ref_Crc_c nl b (by omega)
 have hlt := (crcMore 0 b).toNat_lt
 obtain ⟨c, hcc⟩ : ∃ c, c = crcMore 0 b := ⟨_, rfl⟩
 rw [hdB, tlB, ← hcc]
 rw [← hcc] at hc hlt
 have l1 := ref_le_c mt hm
 have l2 := ref_le_c c.toNat (by omega)
 have l3 := ref_le_c b.length (by omega)
 have hX : (leB mt 4).length = 4 := length_leB4
 have hY : (leB c.toNat 4).length = 4 := length_leB4
 have hZ : (leB b.length 4).length = 4 := length_leB4
 obtain ⟨X, eX⟩ : ∃ X, X = leB mt 4 := ⟨_, rfl⟩
 obtain ⟨Y, eY⟩ : ∃ Y, Y = leB c.toNat 4 := ⟨_, rfl⟩
 obtain ⟨Z, eZ⟩ : ∃ Z, Z = leB b.length 4 := ⟨_, rfl⟩
 rw [← eX] at l1 hX ⊢
 rw [← eY] at l2 hY ⊢
 rw [← eZ] at l3 hZ ⊢
 have w1 : IntKind.u64.wrap (mt : Int) = (mt : Int) := wrap_u64_id (by omega) (by omega)
 have w2 : IntKind.u64.wrap (c.toNat : Int) = (c.toNat : Int) := wrap_u64_id (by omega) (by omega)
 have w3 : IntKind.u64.wrap (b.length : Int) = (b.length : Int) := wrap_u64_id (by omega) (by omega)
 clear eX eY eZ hcc
 by_cases e : nm = []
 · have d : decide (nm = (⟨#[]⟩ : ByteArray).data.toList) = true := decide_eq_true e
   rw [if_pos e, if_pos e]
   repeat (first | refine zR (ja3 @mbA.eq_1 @d @w1) ?_ | exact zU (ja3 @mbA.eq_1 @d @w1))
   refine goC_p _ (.inl ⟨rfl, l1⟩) ?_
   repeat (first | refine zR (ja4 @mbA.eq_1 @d @hX @List.length_map.{0, 0}) ?_ | exact zU (ja4 @mbA.eq_1 @d @hX @List.length_map.{0, 0}))
   refine goC_p _ (.inl ⟨by simp only [AV.free, AV.free.freeL, free_u8, Bool.and_self], hc⟩) ?_
   repeat (first | refine zR @w2 ?_ | exact zU @w2)
   refine goC_p _ (.inl ⟨rfl, l2⟩) ?_
   repeat (first | refine zR (ja6 @mbA.eq_1 @w3 @hX @hY @List.length_map.{0, 0} @List.length_append.{0}) ?_ | exact zU (ja6 @mbA.eq_1 @w3 @hX @hY @List.length_map.{0, 0} @List.length_append.{0}))
   refine goC_p _ (.inl ⟨rfl, l3⟩) ?_
   repeat (first | refine zR (ja5 @hX @hY @hZ @List.length_map.{0, 0} @List.length_append.{0}) ?_ | exact zU (ja5 @hX @hY @hZ @List.length_map.{0, 0} @List.length_append.{0}))
   rw [List.take_of_length_le (by simp; omega)]
 · have d : decide (nm = (⟨#[]⟩ : ByteArray).data.toList) = false := decide_eq_false e
   rw [if_neg e, if_neg e]
   repeat (first | refine zR (ja3 @mbA.eq_1 @d @w1) ?_ | exact zU (ja3 @mbA.eq_1 @d @w1))
   refine goC_p _ (.inl ⟨rfl, l1⟩) ?_
   repeat (first | refine zR (ja4 @mbA.eq_1 @d @hX @List.length_map.{0, 0}) ?_ | exact zU (ja4 @mbA.eq_1 @d @hX @List.length_map.{0, 0}))
   refine goC_p _ (.inl ⟨by simp only [AV.free, AV.free.freeL, free_u8, Bool.and_self], hc⟩) ?_
   repeat (first | refine zR @w2 ?_ | exact zU @w2)
   refine goC_p _ (.inl ⟨rfl, l2⟩) ?_
   repeat (first | refine zR (ja6 @mbA.eq_1 @w3 @hX @hY @List.length_map.{0, 0} @List.length_append.{0}) ?_ | exact zU (ja6 @mbA.eq_1 @w3 @hX @hY @List.length_map.{0, 0} @List.length_append.{0}))
   refine goC_p _ (.inl ⟨rfl, l3⟩) ?_
   repeat (first | refine zR (ja5 @hX @hY @hZ @List.length_map.{0, 0} @List.length_append.{0}) ?_ | exact zU (ja5 @hX @hY @hZ @List.length_map.{0, 0} @List.length_append.{0}))
   rw [List.take_of_length_le (by simp; omega)]
end Go.Proofs.YtbcncdpaigljeaaGreatDoor.Aw
namespace Go.Proofs.YtbcncdpaigljeaaGreatDoor.Aw
open Go
set_option linter.unusedSimpArgs false
set_option linter.unusedVariables false
set_option maxRecDepth 100000 in
theorem gz_take_h [Tabs Tryz.prog] (nl : Bool) (b : List UInt8) (hl : b.length ≤ 1000000) (i n : Nat) (hn : i + n ≤ b.length) :
   HCon Tryz.prog n_gzip_reader_take [.op 1000 0 0, int (n : Int)] [.row false (rdR nl b i)] (.tup [.sl nl none (((b.drop i).take n).map u8), int 0]) [(1000, 0, .row false (rdR nl b (i + n)))] 1 := by
 refine HCon.of' mix Tryz.func114 rfl Tryz.ntmps114 e_gzip_reader_take r_gzip_reader_take (by simp) (by simp [AV.gl, AV.gl.glL, int]) rd_gl ?_
 unfold s_gzip_reader_take
 have d1 : decide ((b.length : Int) - (i : Int) < (n : Int)) = false := decide_eq_false (by omega)
 have hdt : (b.take (i + n)).drop i = (b.drop i).take n := by rw [List.drop_take]; congr 1; omega
 have hc : ((i : Int) + (n : Int)).toNat = i + n := by omega
 have he : ((i + n : Nat) : Int) = (i : Int) + (n : Int) := by omega
 repeat (first | refine zR (ja6 @rdR.eq_1 @d1 @hc @hdt @he @List.length_map.{0, 0}) ?_ | exact zU (ja6 @rdR.eq_1 @d1 @hc @hdt @he @List.length_map.{0, 0}))
 all_goals trace_state
set_option maxRecDepth 100000 in
theorem gz_text_h [Tabs Tryz.prog] (nl : Bool) (b : List UInt8) (hl : b.length ≤ 1000000) (i k : Nat) (hk : Lib.indexByte (b.drop i) 0 = (k : Int)) (hn : i + k < b.length) :
   HCon Tryz.prog n_gzip_reader_text [.op 1000 0 0] [.row false (rdR nl b i)] (.tup [.sl nl none (((b.drop i).take k).map u8), int 0]) [(1000, 0, .row false (rdR nl b (i + (k + 1))))] 1 := by
 refine HCon.of' mix Tryz.func118 rfl Tryz.ntmps118 e_gzip_reader_text r_gzip_reader_text (by simp) (by simp [AV.gl, AV.gl.glL, int]) rd_gl ?_
 unfold s_gzip_reader_text
 have p1 := bytes_IndexByte_c nl (b.drop i) (fun e => by have := congrArg List.length e; rw [List.length_drop, List.length_nil] at this; omega) 0
 rw [hk] at p1
 have d1 : decide ((k : Int) < 0) = false := decide_eq_false (by omega)
 have hdt : (b.take (i + k)).drop i = (b.drop i).take k := by rw [List.drop_take]; congr 1; omega
 have hc : ((i : Int) + (k : Int)).toNat = i + k := by omega
 have he : ((i + (k + 1) : Nat) : Int) = (i : Int) + ((k : Int) + 1) := by omega
 have htl : b.take b.length = b := List.take_length
 repeat (first | refine zR (ja3 @rdR.eq_1 @List.length_map.{0, 0} @htl) ?_ | exact zU (ja3 @rdR.eq_1 @List.length_map.{0, 0} @htl))
 refine goC_p _ (.inl ⟨by simp only [AV.free, AV.free.freeL, free_u8, Bool.and_self], p1⟩) ?_
 repeat (first | refine zR (ja6 @rdR.eq_1 @d1 @hc @hdt @he @List.length_map.{0, 0}) ?_ | exact zU (ja6 @rdR.eq_1 @d1 @hc @hdt @he @List.length_map.{0, 0}))
 all_goals trace_state
set_option maxRecDepth 100000 in
theorem gz_name_h [Tabs Tryz.prog] (nl : Bool) (b : List UInt8) (hl : b.length ≤ 1000000) (i k : Nat) (hk : Lib.indexByte (b.drop i) 0 = (k : Int)) (hn : i + k < b.length) (h2 : k ≤ 200) (nm : List UInt8) (hnm : (b.drop i).take k = nm) :
   HCon Tryz.prog n_gzip_reader_name [.op 1000 0 0] [.row false (rdR nl b i)] (.tup [str nm, int 0]) [(1000, 0, .row false (rdR nl b (i + (k + 1))))] 5 := by
 refine HCon.of' mix Tryz.func117 rfl Tryz.ntmps117 e_gzip_reader_name r_gzip_reader_name (by simp) (by simp [AV.gl, AV.gl.glL, int]) rd_gl ?_
 unfold s_gzip_reader_name
 have p1 := gz_text_h nl b hl i k hk hn
 rw [hnm] at p1
 have hnl : nm.length = k := by rw [← hnm, List.length_take, List.length_drop]; omega
 have d1 : decide ((200 : Int) < (k : Int)) = false := decide_eq_false (by omega)
 repeat (first | refine zS ?_ | exact zT)
 refine goC_h [(1000, 0)] 2000 p1 (by simp) (by simp) ?_ ?_ ?_
 iterate 2 (case _ => (first | exact yU @rdR.eq_1 | refine yR @rdR.eq_1 ?_))
 repeat (first | refine zR (ja4 @rdR.eq_1 @d1 @List.length_map.{0, 0} @hnl) ?_ | exact zU (ja4 @rdR.eq_1 @d1 @List.length_map.{0, 0} @hnl))
 all_goals trace_state
set_option maxRecDepth 100000 in
theorem gz_told0_h [Tabs Tryz.prog] (nl : Bool) (b : List UInt8) (i : Nat) :
   HCon Tryz.prog n_gzip_reader_told [.op 1000 0 0, .sc (.int .u8 0)] [.row false (rdR nl b i)] (.tup [str [], int 0]) [(1000, 0, .row false (rdR nl b i))] 10 := by
 refine HCon.of' mix Tryz.func74 rfl Tryz.ntmps74 e_gzip_reader_told r_gzip_reader_told (by simp) (by simp [AV.gl, AV.gl.glL, int]) rd_gl ?_
 unfold s_gzip_reader_told
 repeat (first | refine zR @rdR.eq_1 ?_ | exact zU @rdR.eq_1)
 all_goals trace_state
set_option maxRecDepth 100000 in
theorem gz_told8_h [Tabs Tryz.prog] (nl : Bool) (b : List UInt8) (hl : b.length ≤ 1000000) (i k : Nat) (hk : Lib.indexByte (b.drop i) 0 = (k : Int)) (hn : i + k < b.length) (h2 : k ≤ 200) (nm : List UInt8) (hnm : (b.drop i).take k = nm) :
   HCon Tryz.prog n_gzip_reader_told [.op 1000 0 0, .sc (.int .u8 8)] [.row false (rdR nl b i)] (.tup [str nm, int 0]) [(1000, 0, .row false (rdR nl b (i + (k + 1))))] 10 := by
 refine HCon.of' mix Tryz.func74 rfl Tryz.ntmps74 e_gzip_reader_told r_gzip_reader_told (by simp) (by simp [AV.gl, AV.gl.glL, int]) rd_gl ?_
 unfold s_gzip_reader_told
 have p1 := gz_name_h nl b hl i k hk hn h2 nm hnm
 repeat (first | refine zS ?_ | exact zT)
 refine goC_h [(1000, 0)] 2000 p1 (by simp) (by simp) ?_ ?_ ?_
 iterate 2 (case _ => (first | exact yU @rdR.eq_1 | refine yR @rdR.eq_1 ?_))
 repeat (first | refine zR @rdR.eq_1 ?_ | exact zU @rdR.eq_1)
 all_goals trace_state
theorem leN_le4 {n : Nat} (h : n < 4294967296) : leN (leB n 4) = n := by
 rw [leB4]
 simp [leN, beN]
 omega
theorem hd_cut {nm : List UInt8} {mt : Nat} {R : List UInt8} : ((hdB nm mt ++ R).drop 0).take 10 = 31 :: 139 :: 8 :: (if nm = [] then 0 else 8) :: (leB mt 4 ++ [0, 3]) := by
 rw [List.drop_zero, hdB, leB4]
 rfl
set_option maxRecDepth 100000 in
theorem gz_head_h [Tabs Tryz.prog] (nl : Bool) (nm : List UInt8) (mt : Nat) (hm : mt < 4294967296) (R b : List UInt8) (hb : b = hdB nm mt ++ R) (hl : b.length ≤ 1000000) (fl : UInt8) (hfl : fl = if nm = [] then 0 else 8) :
   HCon Tryz.prog n_gzip_reader_head [.op 1000 0 0] [.row false (rdR nl b 0)] (.tup [u8 fl, int (mt : Int), int 0]) [(1000, 0, .row false (rdR nl b 10))] 5 := by
 refine HCon.of' mix Tryz.func73 rfl Tryz.ntmps73 e_gzip_reader_head r_gzip_reader_head (by simp) (by simp [AV.gl, AV.gl.glL, int]) rd_gl ?_
 unfold s_gzip_reader_head
 have hlen := hdB_len (nm := nm) (mt := mt)
 have p1 := gz_take_h nl b hl 0 10 (by rw [hb, List.length_append]; omega)
 have hw : (b.drop 0).take 10 = 31 :: 139 :: 8 :: fl :: (leB mt 4 ++ [0, 3]) := by rw [hb, hfl]; exact hd_cut
 have p2 := codec_GetLe_c nl (31 :: 139 :: 8 :: fl :: (leB mt 4 ++ [0, 3])) (by simp [leB]) 4 4
 have hr : getLeR (31 :: 139 :: 8 :: fl :: (leB mt 4 ++ [0, 3])) 4 4 = .tup [.sc (.int .u64 (mt : Int)), boo true] := by
   have e1 : ((31 :: 139 :: 8 :: fl :: (leB mt 4 ++ [0, 3])).drop 4).take 4 = leB mt 4 := by rw [leB4]; rfl
   have e2 : stB (31 :: 139 :: 8 :: fl :: (leB mt 4 ++ [0, 3])).length 4 4 = true := by
     simp [leB, stB]
   unfold getLeR
   rw [if_pos e2, show ((4 : Int).toNat) = 4 from rfl, e1, leN_le4 hm]
 rw [hr] at p2
 rw [hw] at p1
 obtain ⟨V, hV⟩ : ∃ V, V = leB mt 4 ++ [0, 3] := ⟨_, rfl⟩
 have hVl : V.length = 6 := by rw [hV, List.length_append, length_leB4]; rfl
 rw [← hV] at p1 p2
 have hwr : IntKind.i64.wrap (mt : Int) = (mt : Int) := wrap_i64_id (by omega) (by omega)
 have hf8 : fl = 0 ∨ fl = 8 := by by_cases c : nm = []; exact .inl (by rw [hfl, if_pos c]); exact .inr (by rw [hfl, if_neg c])
 obtain ⟨F, hF⟩ : ∃ F : Int, F = (fl.toNat : Int) := ⟨_, rfl⟩
 clear hfl hw hr hb hlen
 rcases hf8 with rfl | rfl
 all_goals
   repeat (first | refine zS ?_ | exact zT)
   refine goC_h [(1000, 0)] 2000 p1 (by simp) (by simp) ?_ ?_ ?_
   iterate 2 (case _ => (first | exact yU @rdR.eq_1 | refine yR @rdR.eq_1 ?_))
   repeat (first | refine zR (ja3 @rdR.eq_1 @hVl @List.length_map.{0, 0}) ?_ | exact zU (ja3 @rdR.eq_1 @hVl @List.length_map.{0, 0}))
   refine goC_p _ (.inl ⟨by simp only [AV.free, AV.free.freeL, free_u8, Bool.and_self], p2⟩) ?_
   repeat (first | refine zR (ja4 @rdR.eq_1 @hVl @hwr @List.length_map.{0, 0}) ?_ | exact zU (ja4 @rdR.eq_1 @hVl @hwr @List.length_map.{0, 0}))
   all_goals trace_state
end Go.Proofs.YtbcncdpaigljeaaGreatDoor.Aw
namespace Go.Proofs.YtbcncdpaigljeaaGreatDoor.Aw
open Go
set_option linter.unusedSimpArgs false
set_option linter.unusedVariables false
set_option maxRecDepth 100000 in
theorem gz_data_h [Tabs Tryz.prog] (nl : Bool) (b : List UInt8) (hl : b.length ≤ 1000000) (i : Nat) (R : List UInt8) (hR : b.drop i = R) (h4 : R.length ≤ 4096) (hi : i ≤ b.length) (room : Int) (nd : Bool) (D : List UInt8) (used : Nat)
   (hI : Con Tryz.prog n_inflate_Inflate [.sl nl none (R.map u8), int room] (.tup [.sl nd none (D.map u8), int (used : Int), int 0])) (hu : used ≤ R.length) :
   HCon Tryz.prog n_gzip_reader_data [.op 1000 0 0, int room] [.row false (rdR nl b i)] (.tup [.sl nd none (D.map u8), int 0]) [(1000, 0, .row false (rdR nl b (i + used)))] 5 := by
 refine HCon.of' mix Tryz.func75 rfl Tryz.ntmps75 e_gzip_reader_data r_gzip_reader_data (by simp) (by simp [AV.gl, AV.gl.glL, int]) rd_gl ?_
 unfold s_gzip_reader_data
 have hRl : R.length = b.length - i := by rw [← hR, List.length_drop]
 have htl : b.take b.length = b := List.take_length
 have htR : R.take R.length = R := List.take_length
 have d1 : ((4096 : Int) < (R.length : Int)) = False := eq_false (by omega)
 have d2 : ((R.length : Int) < 4096) = True ∨ R.length = 4096 := by
   by_cases c : R.length = 4096
   · exact .inr c
   · exact .inl (eq_true (by omega))
 have hm : (if (R.length : Int) < 4096 then (R.length : Int) else 4096) = (R.length : Int) := by split <;> omega
 have he : ((i + used : Nat) : Int) = (i : Int) + (used : Int) := by omega
 repeat (first | refine zR (ja4 @rdR.eq_1 @List.length_map.{0, 0} @htl hR) ?_ | exact zU (ja4 @rdR.eq_1 @List.length_map.{0, 0} @htl hR))
 refine SWp.unroll ?_
 repeat (first | refine zR (ja4 @rdR.eq_1 @List.length_map.{0, 0} @htR @hm) ?_ | exact zU (ja4 @rdR.eq_1 @List.length_map.{0, 0} @htR @hm))
 refine goC_p _ (.inl ⟨by simp only [AV.free, AV.free.freeL, free_u8, int, Bool.and_self], hI⟩) ?_
 repeat (first | refine zR (ja3 @rdR.eq_1 @List.length_map.{0, 0} @he) ?_ | exact zU (ja3 @rdR.eq_1 @List.length_map.{0, 0} @he))
theorem like8 : ∀ {t : List UInt8}, t.length = 8 → likeA (.agg #[.int .u8 0, .int .u8 0, .int .u8 0, .int .u8 0, .int .u8 0, .int .u8 0, .int .u8 0, .int .u8 0]) (.agg (t.map u8)) = True
 | [a, b, c, d, e, f, g, h], _ => by
   have := a.toNat_lt; have := b.toNat_lt; have := c.toNat_lt; have := d.toNat_lt
   have := e.toNat_lt; have := f.toNat_lt; have := g.toNat_lt; have := h.toNat_lt
   have k1 : IntKind.u8.min = 0 := rfl
   have k2 : IntKind.u8.max = 255 := rfl
   refine eq_true ?_
   simp only [likeA, likeAL, likeA1, List.map_cons, List.map_nil, u8, k1, k2, and_true, true_and]
   omega
theorem u8L_inj {a b : List UInt8} (h : a.map u8 = b.map u8) : a = b := (List.map_inj_right (fun x y e => by simp only [u8, AV.sc.injEq, Value.int.injEq, true_and] at e; exact UInt8.toNat_inj.1 (by omega))).1 h
set_option maxRecDepth 100000 in
theorem gz_rtail_h [Tabs Tryz.prog] (nl : Bool) (b : List UInt8) (hl : b.length ≤ 1000000) (i : Nat) (hi : i + 8 ≤ b.length) (nd : Bool) (D : List UInt8) (hD : D.length ≤ 1000000) (t : List UInt8) (ht : (b.drop i).take 8 = t) (e : Int) (he : e = if t = tlB D then 0 else 5) :
   HCon Tryz.prog n_gzip_reader_tail [.op 1000 0 0, .sl nd none (D.map u8)] [.row false (rdR nl b i)] (int e) [(1000, 0, .row false (rdR nl b (i + 8)))] 10 := by
 refine HCon.of' mix Tryz.func76 rfl Tryz.ntmps76 e_gzip_reader_tail r_gzip_reader_tail (by simp) (by simp only [AV.gl, AV.gl.glL, and_true]; exact ⟨by omega, glL_of_free _ _ free_u8⟩) rd_gl ?_
 unfold s_gzip_reader_tail
 have p1 := gz_take_h nl b hl i 8 hi
 rw [ht] at p1
 have htl : t.length = 8 := by rw [← ht, List.length_take, List.length_drop]; omega
 have p2 := gz_tail_c nd D hD
 have hTl : (tlB D).length = 8 := by rw [tlB, List.length_append, length_leB4, length_leB4]
 have l1 := like8 htl
 have l2 := like8 hTl
 have hq : eqB (.agg (t.map u8)) (.agg ((tlB D).map u8)) = decide (t = tlB D) := by
   by_cases c : t = tlB D
   · rw [decide_eq_true c]; exact eqB_t (by rw [c])
   · rw [decide_eq_false c]
     exact eqB_f (fun e => c (u8L_inj (by injection e)))
 obtain ⟨T, hT⟩ : ∃ T, T = tlB D := ⟨_, rfl⟩
 rw [← hT] at p2 hTl l2 hq he
 have t8 : (t.map u8).take 8 = t.map u8 := List.take_of_length_le (by simp; omega)
 have hc : ((i + 8 : Nat) : Int) = (i : Int) + 8 := by omega
 repeat (first | refine zS ?_ | exact zT)
 refine goC_h [(1000, 0)] 2000 p1 (by simp) (by simp) ?_ ?_ ?_
 iterate 2 (case _ => (first | exact yU @rdR.eq_1 | refine yR @rdR.eq_1 ?_))
 repeat (first | refine zR (ja4 @rdR.eq_1 @htl @t8 @List.length_map.{0, 0}) ?_ | exact zU (ja4 @rdR.eq_1 @htl @t8 @List.length_map.{0, 0}))
 refine goC_p _ (.inl ⟨by simp only [AV.free, AV.free.freeL, free_u8, Bool.and_self], p2⟩) ?_
 by_cases c : t = T
 · rw [decide_eq_true c] at hq
   rw [if_pos c] at he
   subst he
   repeat (first | refine zR (ja7 @rdR.eq_1 @hq @l1 @l2 @htl @t8 @List.length_map.{0, 0}) ?_ | exact zU (ja7 @rdR.eq_1 @hq @l1 @l2 @htl @t8 @List.length_map.{0, 0}))
 · rw [decide_eq_false c] at hq
   rw [if_neg c] at he
   subst he
   repeat (first | refine zR (ja7 @rdR.eq_1 @hq @l1 @l2 @htl @t8 @List.length_map.{0, 0}) ?_ | exact zU (ja7 @rdR.eq_1 @hq @l1 @l2 @htl @t8 @List.length_map.{0, 0}))
end Go.Proofs.YtbcncdpaigljeaaGreatDoor.Aw
namespace Go.Proofs.YtbcncdpaigljeaaGreatDoor.Aw
open Go
set_option linter.unusedSimpArgs false
set_option linter.unusedVariables false
theorem index_name {nm R : List UInt8} (h : Lib.indexByte nm 0 < 0) : Lib.indexByte (nm ++ 0 :: R) 0 = (nm.length : Int) := by
 refine indexByte_some _ _ _ (by simp) (by simp [List.getD]) fun k hk e => ?_
 have he : nm.getD k 0 = 0 := by simpa [List.getD, List.getElem?_append_left hk] using e
 have : ∃ j : Nat, Lib.indexByte nm 0 = (j : Int) := by
   have key : ∀ (l : List UInt8) (k : Nat), k < l.length → l.getD k 0 = 0 → 0 ≤ Lib.indexByte l 0 := by
     intro l
     induction l with
     | nil => intro k hk; simp at hk
     | cons x l ih =>
       intro k hk e
       simp only [Lib.indexByte]
       split
       · omega
       · rename_i hx
         cases k with
         | zero => simp only [List.getD_cons_zero] at e; subst e; simp at hx
         | succ k =>
           have := ih k (by simpa using hk) (by simpa using e)
           split
           · rename_i h1
             have h1 : Lib.indexByte l 0 = -1 := by simpa using h1
             omega
           · omega
   exact ⟨(Lib.indexByte nm 0).toNat, by have := key nm k hk he; omega⟩
 obtain ⟨j, hj⟩ := this
 omega
def gotM (ok : Bool) (nm : List UInt8) (mt : Nat) (nd : Bool) (D : List UInt8) : AV := if ok then .tup [.agg [str nm, int (mt : Int), .sl nd none (D.map u8)], int 0] else .tup [.agg [str [], int 0, .sc (.slice none 0 0)], int 5]
set_option maxHeartbeats 1000000 in
set_option maxRecDepth 100000 in
theorem gz_member_p [Tabs Tryz.prog] (nl : Bool) (nm : List UInt8) (hn : nm.length ≤ 200) (hz : Lib.indexByte nm 0 < 0) (mt : Nat) (hm : mt < 4294967296) (R b : List UInt8) (hb : b = hdB nm mt ++ R) (hl : b.length ≤ 1000000) (room : Int) (nd : Bool) (D : List UInt8) (hD : D.length ≤ 1000000) (used : Nat)
   (p3 : HCon Tryz.prog n_gzip_reader_data [.op 1000 0 0, int room] [.row false (rdR nl b (hdB nm mt).length)] (.tup [.sl nd none (D.map u8), int 0]) [(1000, 0, .row false (rdR nl b ((hdB nm mt).length + used)))] 5) (hu : used + 8 ≤ R.length) (ok : Bool) (hok : ok = decide ((R.drop used).take 8 = tlB D)) :
   HCon Tryz.prog n_gzip_reader_member [.op 1000 0 0, int room] [.row false (rdR nl b 0)] (gotM ok nm mt nd D) [(1000, 0, .row false (rdR nl b ((hdB nm mt).length + used + 8)))] 40 := by
 refine HCon.of' mix Tryz.func43 rfl Tryz.ntmps43 e_gzip_reader_member r_gzip_reader_member (by simp) (by simp [AV.gl, AV.gl.glL, int]) rd_gl ?_
 unfold s_gzip_reader_member
 have hbl : b.length = (hdB nm mt).length + R.length := by rw [hb, List.length_append]
 obtain ⟨p, hp⟩ : ∃ p, p = (hdB nm mt).length := ⟨_, rfl⟩
 have hdp : b.drop p = R := by rw [hb, hp, List.drop_left]
 have p1 := gz_head_h nl nm mt hm R b hb hl _ rfl
 have p4 := gz_rtail_h nl b hl (p + used) (by omega) nd D hD _ rfl _ rfl
 rw [← List.drop_drop, hdp] at p4
 rw [← hp] at p3 ⊢
 have p2 : HCon Tryz.prog n_gzip_reader_told [.op 1000 0 0, u8 (if nm = [] then 0 else 8)] [.row false (rdR nl b 10)] (.tup [str nm, int 0]) [(1000, 0, .row false (rdR nl b p))] 10 := by
   by_cases c : nm = []
   · subst c
     have hp10 : p = 10 := by rw [hp, hdB, leB4]; rfl
     rw [if_pos rfl, hp10]
     exact gz_told0_h nl b 10
   · have hp11 : p = 10 + (nm.length + 1) := by
       rw [hp, hdB, leB4, if_neg c, if_neg c]
       simp only [List.length_cons, List.length_append, List.length_nil]; omega
     have hd10 : b.drop 10 = nm ++ 0 :: R := by
       rw [hb, hdB, leB4, if_neg c, if_neg c]
       simp
     rw [if_neg c, hp11]
     exact gz_told8_h nl b hl 10 nm.length (by rw [hd10]; exact index_name hz) (by omega) hn nm (by rw [hd10]; exact List.take_left)
 obtain ⟨fl, hfl⟩ : ∃ fl : UInt8, fl = if nm = [] then 0 else 8 := ⟨_, rfl⟩
 rw [← hfl] at p1 p2
 repeat (first | refine zS ?_ | exact zT)
 refine goC_h [(1000, 0)] 2000 p1 (by simp) (by simp) ?_ ?_ ?_
 iterate 2 (case _ => (first | exact yU @rdR.eq_1 | refine yR @rdR.eq_1 ?_))
 repeat (first | refine zR @rdR.eq_1 ?_ | exact zU @rdR.eq_1)
 refine goC_h [(1000, 0)] 3000 p2 (by simp) (by simp) ?_ ?_ ?_
 iterate 2 (case _ => (first | exact yU @rdR.eq_1 | refine yR @rdR.eq_1 ?_))
 repeat (first | refine zR @rdR.eq_1 ?_ | exact zU @rdR.eq_1)
 refine goC_h [(1000, 0)] 4000 p3 (by simp) (by simp) ?_ ?_ ?_
 iterate 2 (case _ => (first | exact yU @rdR.eq_1 | refine yR @rdR.eq_1 ?_))
 repeat (first | refine zR @rdR.eq_1 ?_ | exact zU @rdR.eq_1)
 refine goC_h [(1000, 0)] 5000 p4 (by simp) (by simp) ?_ ?_ ?_
 iterate 2 (case _ => (first | exact yU @rdR.eq_1 | refine yR @rdR.eq_1 ?_))
 by_cases c : (R.drop used).take 8 = tlB D
 · rw [decide_eq_true c] at hok
   subst hok
   rw [if_pos c]
   repeat (first | refine zR (ja2 @rdR.eq_1 @gotM.eq_1) ?_ | exact zU (ja2 @rdR.eq_1 @gotM.eq_1))
 · rw [decide_eq_false c] at hok
   subst hok
   rw [if_neg c]
   repeat (first | refine zR (ja2 @rdR.eq_1 @gotM.eq_1) ?_ | exact zU (ja2 @rdR.eq_1 @gotM.eq_1))
theorem gz_member_h [Tabs Tryz.prog] (nl : Bool) (nm : List UInt8) (hn : nm.length ≤ 200) (hz : Lib.indexByte nm 0 < 0) (mt : Nat) (hm : mt < 4294967296) (R b : List UInt8) (hb : b = hdB nm mt ++ R) (hl : b.length ≤ 1000000) (h4 : R.length ≤ 4096) (room : Int) (nd : Bool) (D : List UInt8) (hD : D.length ≤ 1000000) (used : Nat)
   (hI : Con Tryz.prog n_inflate_Inflate [.sl nl none (R.map u8), int room] (.tup [.sl nd none (D.map u8), int (used : Int), int 0])) (hu : used + 8 ≤ R.length) (ok : Bool) (hok : ok = decide ((R.drop used).take 8 = tlB D)) :
   HCon Tryz.prog n_gzip_reader_member [.op 1000 0 0, int room] [.row false (rdR nl b 0)] (gotM ok nm mt nd D) [(1000, 0, .row false (rdR nl b ((hdB nm mt).length + used + 8)))] 40 :=
 gz_member_p nl nm hn hz mt hm R b hb hl room nd D hD used (gz_data_h nl b hl _ R (by rw [hb, List.drop_left]) h4 (by rw [hb, List.length_append]; omega) room nd D used hI (by omega)) hu ok hok
end Go.Proofs.YtbcncdpaigljeaaGreatDoor.Aw
namespace Go.Proofs.YtbcncdpaigljeaaGreatDoor.Aw
open Go
set_option linter.unusedSimpArgs false
set_option linter.unusedVariables false
set_option maxHeartbeats 1000000 in
set_option maxRecDepth 100000 in
theorem gz_Unpack_one [Tabs Tryz.prog] (nm : List UInt8) (hn : nm.length ≤ 200) (hz : Lib.indexByte nm 0 < 0) (mt : Nat) (hm : mt < 4294967296) (R b : List UInt8) (hb : b = hdB nm mt ++ R) (hl : b.length ≤ 1000000) (h4 : R.length ≤ 4096) (room : Nat) (hr : room ≤ 16777216) (nd : Bool) (D : List UInt8) (hD : D.length ≤ 1000000) (used : Nat)
   (hI : Con Tryz.prog n_inflate_Inflate [.sl false none (R.map u8), int (room : Int)] (.tup [.sl nd none (D.map u8), int (used : Int), int 0])) (hu : used + 8 = R.length) (hok : (R.drop used).take 8 = tlB D) :
   Con Tryz.prog n_gzip_Unpack [.sl false none (b.map u8), int (room : Int)] (.tup [.sl false (some 3) [.agg [str nm, int (mt : Int), .sl nd none (D.map u8)]], .agg [str [], int 0, int 0]]) := by
 refine Con.of' mix Tryz.func16 rfl Tryz.ntmps16 e_gzip_Unpack r_gzip_Unpack (by simp) (by simp only [AV.free, AV.free.freeL, free_u8, int, Bool.and_self]) (by simp only [AV.free, AV.free.freeL, free_u8, int, str, Bool.and_self]) ?_
 unfold s_gzip_Unpack
 have p1 := gz_member_h false nm hn hz mt hm R b hb hl h4 room nd D hD used hI (by omega) true (decide_eq_true hok).symm
 have hq : (hdB nm mt).length + used + 8 = b.length := by rw [hb, List.length_append]; omega
 rw [hq] at p1
 have hbl : 10 ≤ b.length := by have := hdB_len (nm := nm) (mt := mt); omega
 have d1 : decide ((room : Int) < 0) = false := decide_eq_false (by omega)
 have d2 : decide ((16777216 : Int) < (room : Int)) = false := decide_eq_false (by omega)
 have d3 : decide ((b.length : Int) = 0) = false := decide_eq_false (by omega)
 have d4 : decide ((b.length : Int) < (b.length : Int)) = false := decide_eq_false (by omega)
 have htl : b.take b.length = b := List.take_length
 clear hb
 repeat (first | refine zR (ja2 @d1 @d2) ?_ | exact zU (ja2 @d1 @d2))
 refine SWp.unroll ?_
 repeat (first | refine zR (ja3 @List.length_map.{0, 0} @htl @List.drop_zero.{0}) ?_ | exact zU (ja3 @List.length_map.{0, 0} @htl @List.drop_zero.{0}))
 refine goC_h [(30, 1)] 2000 p1 (by simp) (by simp) ?_ ?_ ?_
 iterate 2 (case _ => (first | exact yU @rdR.eq_1 | refine yR @rdR.eq_1 ?_))
 repeat (first | refine zR (ja5 @rdR.eq_1 @gotM.eq_1 @d3 @d4 @List.length_map.{0, 0}) ?_ | exact zU (ja5 @rdR.eq_1 @gotM.eq_1 @d3 @d4 @List.length_map.{0, 0}))
 refine ⟨⟨_, rfl, rfl⟩, fun y hy => ⟨_, List.mem_singleton.1 hy⟩, ?_⟩
 repeat (first | refine zR (ja5 @rdR.eq_1 @gotM.eq_1 @d3 @d4 @List.length_map.{0, 0}) ?_ | exact zU (ja5 @rdR.eq_1 @gotM.eq_1 @d3 @d4 @List.length_map.{0, 0}))
 rfl
end Go.Proofs.YtbcncdpaigljeaaGreatDoor.Aw
namespace Go.Proofs.YtbcncdpaigljeaaGreatDoor.Aw
open Go
set_option linter.unusedSimpArgs false
set_option linter.unusedVariables false
def syms (l : List Nat) (k n : Nat) : List Nat := if n = 0 then [] else (List.range k).filter fun s => decide (l.getD s 0 = n)
def trR (l : List Nat) : List AV := (r16 (fr l)).map nA ++ (List.range 16).map (fun n => AV.sl (nl0 (syms l l.length n).length) none ((syms l l.length n).map nA)) ++ [.sc (.int .i64 (kraft l : Nat))]
end Go.Proofs.YtbcncdpaigljeaaGreatDoor.Aw
namespace Go.Proofs.YtbcncdpaigljeaaGreatDoor.Aw
open Go
set_option linter.unusedSimpArgs false
set_option linter.unusedVariables false
theorem free_trR {l : List Nat} : AV.free.freeL (trR l) = true := by
 unfold trR
 rw [free_append, free_append, free_nA]
 have : AV.free.freeL ((List.range 16).map (fun n => AV.sl (nl0 (syms l l.length n).length) none ((syms l l.length n).map nA))) = true := freeL_iff.2 fun x hx => by
   obtain ⟨n, _, rfl⟩ := List.mem_map.1 hx
   simp only [AV.free, free_nA]
 rw [this]; rfl
end Go.Proofs.YtbcncdpaigljeaaGreatDoor.Aw
namespace Go.Proofs.YtbcncdpaigljeaaGreatDoor.Aw
open Go
set_option linter.unusedSimpArgs false
set_option linter.unusedVariables false
inductive BT (α : Type) where
 | ret (a : α) : BT α
 | err (e : Nat) : BT α
 | pos (k : Nat → BT α) : BT α
 | bit (k : Nat → BT α) : BT α
inductive BR (α : Type) where
 | ok (a : α) (i : Nat) : BR α
 | no (e : Nat) : BR α
def BR.bnd {α β : Type} : BR α → (α → Nat → BR β) → BR β
 | .ok a i, f => f a i
 | .no e, _ => .no e
def BT.bnd {α β : Type} : BT α → (α → BT β) → BT β
 | .ret a, f => f a
 | .err e, _ => .err e
 | .pos k, f => .pos fun i => (k i).bnd f
 | .bit k, f => .bit fun x => (k x).bnd f
def BT.run {α : Type} (B : List Nat) : BT α → Nat → BR α
 | .ret a, i => .ok a i
 | .err e, _ => .no e
 | .pos k, i => (k i).run B i
 | .bit k, i => if i < B.length then (k (B.getD i 0)).run B (i + 1) else .no 2
theorem run_bnd {α β : Type} {B : List Nat} {f : α → BT β} : ∀ {t : BT α} {i : Nat}, (t.bnd f).run B i = (t.run B i).bnd fun a j => (f a).run B j
 | .ret _, _ => rfl
 | .err _, _ => rfl
 | .pos k, i => by simp only [BT.bnd, BT.run]; exact run_bnd
 | .bit k, i => by
   simp only [BT.bnd, BT.run]
   split
   · exact run_bnd
   · rfl
def numT : Nat → BT Nat
 | 0 => .ret 0
 | n + 1 => .bit fun x => (numT n).bnd fun y => .ret (x + 2 * y)
theorem run_numT {B : List Nat} : ∀ {n i : Nat}, i ≤ B.length → (numT n).run B i = if i + n ≤ B.length then .ok (numB ((B.drop i).take n)) (i + n) else .no 2
 | 0, i, h => by rw [if_pos (by omega)]; rfl
 | n + 1, i, h => by
   simp only [numT, BT.run, run_bnd]
   by_cases c : i < B.length
   · rw [if_pos c, run_numT (by omega)]
     by_cases c2 : i + (n + 1) ≤ B.length
     · rw [if_pos (by omega), if_pos c2]
       simp only [BR.bnd, BT.run]
       have : B.drop i = B.getD i 0 :: B.drop (i + 1) := by
         rw [List.drop_eq_getElem_cons c]; simp [List.getD, List.getElem?_eq_getElem c]
       rw [this, List.take_succ_cons, numB]
       congr 1
       omega
     · rw [if_neg (by omega), if_neg c2]; rfl
   · rw [if_neg c, if_neg (by omega)]
theorem numAt_eq {b : List UInt8} {i n : Nat} (h : i + n ≤ 8 * b.length) : numB (((bitsL b).drop i).take n) = numAt b i n := by
 unfold numAt
 congr 1
 apply List.ext_getElem?
 intro k
 rw [List.getElem?_take]
 by_cases hk : k < n
 · have hj : i + k < 8 * b.length := by omega
   have hj2 : i + k < (bitsL b).length := by rw [length_bitsL]; exact hj
   rw [if_pos hk, List.getElem?_drop, List.getElem?_map, List.getElem?_range hk, List.getElem?_eq_getElem hj2]
   simp only [Option.map_some, Option.some.injEq]
   rw [← bitsL_get hj]
   simp [List.getD, List.getElem?_eq_getElem hj2]
 · rw [if_neg hk, List.getElem?_eq_none (by simp; omega)]
theorem run_num {b : List UInt8} {i n : Nat} (h : i ≤ 8 * b.length) : (numT n).run (bitsL b) i = if i + n ≤ 8 * b.length then .ok (numAt b i n) (i + n) else .no 2 := by
 rw [run_numT (by rw [length_bitsL]; exact h), length_bitsL]
 split
 · rw [numAt_eq (by assumption)]
 · rfl
def nxtT (l : List Nat) : Nat → Nat → Nat → BT Nat
 | 0, _, _ => .err 3
 | f + 1, n, v => .bit fun x =>
   if kraft l ≤ (2 * v + x) * 2 ^ (15 - (n + 1)) then .err 3 else
   if 2 * v + x - fr l (n + 1) < cn l (n + 1) then .ret ((syms l l.length (n + 1)).getD (2 * v + x - fr l (n + 1)) 0) else
   nxtT l f (n + 1) (2 * v + x)
def plusT (v n : Nat) : BT Nat := (numT n).bnd fun x => .ret (v + x)
def lenT (s : Nat) : BT Nat := if 29 ≤ s then .err 3 else if s = 28 then .ret 258 else if s < 8 then .ret (3 + s) else plusT (3 + (4 + s % 4) * 2 ^ (s / 4 - 1)) (s / 4 - 1)
def disT (s : Nat) : BT Nat := if 30 ≤ s then .err 3 else if s < 4 then .ret (1 + s) else plusT (1 + (2 + s % 2) * 2 ^ (s / 2 - 1)) (s / 2 - 1)
def cpy (out : List UInt8) (k : Nat) : Nat → List UInt8
 | 0 => out
 | n + 1 => cpy (out ++ [out.getD (out.length - k) 0]) k n
def runT (most : Nat) (d : List Nat) (out : List UInt8) (s : Nat) : BT (List UInt8) :=
 (lenT s).bnd fun n => (nxtT d 15 0 0).bnd fun t => (disT t).bnd fun k =>
   if out.length < k then .err 3 else if most < out.length + n then .err 4 else .ret (cpy out k n)
def symT (l d : List Nat) (most : Nat) : Nat → List UInt8 → BT (List UInt8)
 | 0, _ => .err 2
 | f + 1, out => (nxtT l 15 0 0).bnd fun s =>
   if s < 256 then (if most ≤ out.length then .err 4 else symT l d most f (out ++ [UInt8.ofNat s])) else
   if s = 256 then .ret out else (runT most d out (s - 257)).bnd fun o => symT l d most f o
def bytT : Nat → BT (List UInt8)
 | 0 => .ret []
 | n + 1 => (numT 8).bnd fun x => (bytT n).bnd fun r => .ret (UInt8.ofNat x :: r)
def stoT (most : Nat) (out : List UInt8) : BT (List UInt8) :=
 .pos fun i => (numT ((i + 7) / 8 * 8 - i)).bnd fun _ => (numT 16).bnd fun n => (numT 16).bnd fun m =>
   if n + m ≠ 65535 then .err 3 else (bytT n).bnd fun bs => if most < out.length + n then .err 4 else .ret (out ++ bs)
def tells : List Nat := [16, 17, 18, 0, 8, 7, 9, 6, 10, 5, 11, 4, 12, 3, 13, 2, 14, 1, 15]
def telT : Nat → Nat → List Nat → BT (List Nat)
 | 0, _, l => .ret l
 | n + 1, k, l => (numT 3).bnd fun x => telT n (k + 1) (l.set (tells.getD k 0) x)
def lsV (s : Nat) (l : List Nat) : Nat := if s = 16 then l.getD (l.length - 1) 0 else if s = 17 ∨ s = 18 then 0 else s
def lsN (s : Nat) : Nat := if s = 16 ∨ s = 17 then 3 else if s = 18 then 11 else 1
def lsB (s : Nat) : Nat := if s = 16 then 2 else if s = 17 then 3 else if s = 18 then 7 else 0
def lsT (th : List Nat) (n : Nat) : Nat → List Nat → BT (List Nat)
 | 0, _ => .err 3
 | f + 1, l => if n ≤ l.length then .ret l else (nxtT th 15 0 0).bnd fun s =>
   if s = 16 ∧ l = [] then .err 3 else (plusT (lsN s) (lsB s)).bnd fun t => if n < l.length + t then .err 3 else lsT th n f (l ++ List.replicate t (lsV s l))
def fulN (l : List Nat) : Bool := decide (l.length ≤ 320 ∧ kraft l = 32768)
def fewN (l : List Nat) : Bool := decide (l.sum ≤ 1) || fulN l
def codN (l d : List Nat) : Bool := decide (l.getD 256 0 ≠ 0) && fulN l && fewN d
def tlrT (n : Nat) : BT (List Nat) := (telT n 0 (List.replicate 19 0)).bnd fun th => if fulN th = true then .ret th else .err 3
def tolT : BT (List Nat × List Nat) :=
 (numT 14).bnd fun c => if 286 < c % 32 + 257 ∨ 30 < c / 32 % 32 + 1 then .err 3 else
   (tlrT (c / 1024 + 4)).bnd fun th => (lsT th (c % 32 + 257 + (c / 32 % 32 + 1)) 400 []).bnd fun ls =>
     if codN (ls.take (c % 32 + 257)) (ls.drop (c % 32 + 257)) = true then .ret (ls.take (c % 32 + 257), ls.drop (c % 32 + 257)) else .err 3
def fixL : List Nat := List.replicate 144 8 ++ (List.replicate 112 9 ++ (List.replicate 24 7 ++ List.replicate 8 8))
def fixD : List Nat := List.replicate 32 5
def bodT (most F : Nat) (out : List UInt8) (h : Nat) : BT (List UInt8) :=
 if h = 0 then stoT most out else if h = 1 then symT fixL fixD most F out else
 if h = 2 then tolT.bnd fun p => symT p.1 p.2 most F out else .err 3
def blkT (most F : Nat) (out : List UInt8) : BT (Bool × List UInt8) :=
 (numT 3).bnd fun h => (bodT most F out (h / 2)).bnd fun o => .ret (decide (h % 2 = 1), o)
theorem run_bytT {b : List UInt8} : ∀ {n j : Nat}, j ≤ b.length → (bytT n).run (bitsL b) (8 * j) = if j + n ≤ b.length then .ok ((b.drop j).take n) (8 * (j + n)) else .no 2
 | 0, j, h => by rw [if_pos (by omega)]; rfl
 | n + 1, j, h => by
   simp only [bytT, run_bnd]
   rw [run_num (by omega)]
   by_cases c : j < b.length
   · rw [if_pos (by omega)]
     simp only [BR.bnd, run_bnd]
     rw [show 8 * j + 8 = 8 * (j + 1) by omega, run_bytT (by omega)]
     by_cases c2 : j + (n + 1) ≤ b.length
     · rw [if_pos (by omega), if_pos c2]
       simp only [BR.bnd, BT.run]
       have e : b.drop j = b.getD j 0 :: b.drop (j + 1) := by
         rw [List.drop_eq_getElem_cons c]; simp [List.getD, List.getElem?_eq_getElem c]
       have e2 : UInt8.ofNat (numAt b (8 * j) 8) = b.getD j 0 := by
         have h1 : (bitsL b).drop (8 * j) = bitsB (b.getD j 0) ++ bitsL (b.drop (j + 1)) := by
           conv => lhs; rw [← List.take_append_drop j b, bitsL_append]
           rw [List.drop_append, length_bitsL, List.length_take, Nat.min_eq_left (by omega), Nat.sub_self, List.drop_zero, List.drop_of_length_le (by rw [length_bitsL, List.length_take]; omega), List.nil_append, e]
           simp [bitsL]
         rw [← numAt_eq (by omega), h1, List.take_append_of_le_length (by rw [length_bitsB]; exact Nat.le_refl _), List.take_of_length_le (by rw [length_bitsB]; exact Nat.le_refl _)]
         have := (b.getD j 0).toNat_lt
         have h2 : numB (bitsB (b.getD j 0)) = (b.getD j 0).toNat := numB_bitsB
         rw [h2]; exact UInt8.ofNat_toNat
       rw [e2, e, List.take_succ_cons]
       congr 1
       omega
     · rw [if_neg (by omega), if_neg c2]
   · rw [if_neg (by omega), if_neg (by omega)]; rfl
where
 numB_bitsB {c : UInt8} : numB (bitsB c) = c.toNat := by
   have := c.toNat_lt
   simp only [bitsB, show List.range 8 = [0, 1, 2, 3, 4, 5, 6, 7] from rfl, List.map_cons, List.map_nil, numB]
   omega
theorem run_stoT {b : List UInt8} {most : Nat} {out : List UInt8} {i : Nat} (hi : i ≤ 8 * b.length) :
   (stoT most out).run (bitsL b) i =
     if 8 * b.length < (i + 7) / 8 * 8 + 16 then .no 2 else if 8 * b.length < (i + 7) / 8 * 8 + 32 then .no 2 else
     if numAt b ((i + 7) / 8 * 8) 16 + numAt b ((i + 7) / 8 * 8 + 16) 16 ≠ 65535 then .no 3 else
     if b.length < (i + 7) / 8 + 4 + numAt b ((i + 7) / 8 * 8) 16 then .no 2 else
     if most < out.length + numAt b ((i + 7) / 8 * 8) 16 then .no 4 else
     .ok (out ++ (b.drop ((i + 7) / 8 + 4)).take (numAt b ((i + 7) / 8 * 8) 16)) (8 * ((i + 7) / 8 + 4 + numAt b ((i + 7) / 8 * 8) 16)) := by
 obtain ⟨q, hq⟩ : ∃ q, q = (i + 7) / 8 := ⟨_, rfl⟩
 rw [← hq]
 simp only [stoT, BT.run, run_bnd]
 rw [← hq, run_num hi, if_pos (by omega)]
 simp only [BR.bnd, run_bnd]
 rw [show i + (q * 8 - i) = q * 8 by omega, run_num (by omega)]
 by_cases c1 : 8 * b.length < q * 8 + 16
 · rw [if_neg (by omega), if_pos c1]
 · rw [if_pos (by omega), if_neg c1]
   simp only [BR.bnd, run_bnd]
   rw [run_num (by omega)]
   by_cases c2 : 8 * b.length < q * 8 + 32
   · rw [if_neg (by omega), if_pos c2]
   · rw [if_pos (by omega), if_neg c2]
     simp only [BR.bnd]
     split
     · rfl
     · rw [run_bnd, show q * 8 + 16 + 16 = 8 * (q + 4) by omega, run_bytT (by omega)]
       by_cases c3 : b.length < q + 4 + numAt b (q * 8) 16
       · rw [if_neg (by omega), if_pos c3]; rfl
       · rw [if_pos (by omega), if_neg c3]
         simp only [BR.bnd]
         split
         · rfl
         · rfl
end Go.Proofs.YtbcncdpaigljeaaGreatDoor.Aw
namespace Go.Proofs.YtbcncdpaigljeaaGreatDoor.Aw
open Go
set_option linter.unusedSimpArgs false
set_option linter.unusedVariables false
def Rds {α : Type} (t : BT α) (X : List Nat) (a : α) : Prop := ∀ (B R : List Nat) (i : Nat), i ≤ B.length → B.drop i = X ++ R → t.run B i = .ok a (i + X.length)
theorem Rds.ret {α : Type} {a : α} : Rds (.ret a) [] a := fun B R i hi h => rfl
theorem Rds.bnd {α β : Type} {t : BT α} {f : α → BT β} {X Y : List Nat} {a : α} {b : β} (h : Rds t X a) (h2 : Rds (f a) Y b) : Rds (t.bnd f) (X ++ Y) b := fun B R i hi hd => by
 rw [List.append_assoc] at hd
 have hl := congrArg List.length hd
 rw [List.length_drop, List.length_append] at hl
 rw [run_bnd, h B (Y ++ R) i hi hd]
 simp only [BR.bnd]
 rw [h2 B R (i + X.length) (by omega) (by rw [← List.drop_drop, hd, List.drop_left]), List.length_append, Nat.add_assoc]
theorem Rds.bnd0 {α β : Type} {t : BT α} {f : α → BT β} {X : List Nat} {a : α} {b : β} (h : Rds t X a) (h2 : Rds (f a) [] b) : Rds (t.bnd f) X b := by
 have := h.bnd h2
 rwa [List.append_nil] at this
theorem Rds_num {v n : Nat} : Rds (numT n) (digB v n) (v % 2 ^ n) := fun B R i hi hd => by
 have hl := congrArg List.length hd
 rw [List.length_drop, List.length_append, length_digB] at hl
 rw [run_numT hi, if_pos (by omega), hd, List.take_append_of_le_length (by rw [length_digB]; exact Nat.le_refl _), List.take_of_length_le (by rw [length_digB]; exact Nat.le_refl _), numB_dig, length_digB]
end Go.Proofs.YtbcncdpaigljeaaGreatDoor.Aw
namespace Go.Proofs.YtbcncdpaigljeaaGreatDoor.Aw
open Go
set_option linter.unusedSimpArgs false
set_option linter.unusedVariables false
theorem Rds_byt : ∀ {c : List UInt8}, Rds (bytT c.length) (bitsL c) c
 | [] => Rds.ret
 | x :: c => by
   have e : bitsL (x :: c) = digB x.toNat 8 ++ bitsL c := rfl
   rw [e, List.length_cons, bytT]
   have hn := Rds_num (v := x.toNat) (n := 8)
   rw [Nat.mod_eq_of_lt x.toNat_lt] at hn
   refine hn.bnd (Rds.bnd0 (a := c) Rds_byt ?_)
   rw [UInt8.ofNat_toNat]
   exact Rds.ret
theorem blk_bits {u : Nat} (hu : u < 2) {c : List UInt8} (hc : c.length ≤ 65535) : bitsL (blkS u c) = digB u 3 ++ (digB 0 5 ++ (digB c.length 16 ++ (digB (65535 - c.length) 16 ++ bitsL c))) := by
 rw [dig16 (show c.length < 65536 by omega), dig16 (show 65535 - c.length < 65536 by omega)]
 have e1 : bitsB (UInt8.ofNat u) = digB u 3 ++ digB 0 5 := by
   obtain rfl | rfl : u = 0 ∨ u = 1 := by omega
   · decide
   · decide
 rw [blkS]
 simp only [bitsL, List.flatMap_cons, e1, List.append_assoc]
theorem blk_run {most F : Nat} {out : List UInt8} {u : Nat} (hu : u < 2) {c : List UInt8} (hc : c.length ≤ 65535) (hm : out.length + c.length ≤ most) {B R : List Nat} {j : Nat} (hj : 8 * j ≤ B.length) (hd : B.drop (8 * j) = bitsL (blkS u c) ++ R) :
   (blkT most F out).run B (8 * j) = .ok (decide (u % 2 = 1), out ++ c) (8 * (j + 5 + c.length)) := by
 rw [blk_bits hu hc] at hd
 have hl := congrArg List.length hd
 simp only [List.length_drop, List.length_append, length_digB, length_bitsL] at hl
 have h3 := Rds_num (v := u) (n := 3) B (digB 0 5 ++ (digB c.length 16 ++ (digB (65535 - c.length) 16 ++ bitsL c)) ++ R) (8 * j) hj (by rw [hd]; simp only [List.append_assoc])
 rw [Nat.mod_eq_of_lt (show u < 2 ^ 3 by omega), length_digB] at h3
 rw [blkT, run_bnd, h3]
 simp only [BR.bnd]
 rw [run_bnd, bodT, if_pos (by omega), stoT, BT.run]
 rw [show (8 * j + 3 + 7) / 8 * 8 - (8 * j + 3) = 5 by omega]
 have hb : Rds ((numT 5).bnd fun _ => (numT 16).bnd fun n => (numT 16).bnd fun m => if n + m ≠ 65535 then .err 3 else (bytT n).bnd fun bs => if most < out.length + n then .err 4 else .ret (out ++ bs)) (digB 0 5 ++ (digB c.length 16 ++ (digB (65535 - c.length) 16 ++ bitsL c))) (out ++ c) := by
   refine Rds_num.bnd ?_
   have n1 := Rds_num (v := c.length) (n := 16)
   rw [Nat.mod_eq_of_lt (show c.length < 2 ^ 16 by omega)] at n1
   refine n1.bnd ?_
   have n2 := Rds_num (v := 65535 - c.length) (n := 16)
   rw [Nat.mod_eq_of_lt (show 65535 - c.length < 2 ^ 16 by omega)] at n2
   refine n2.bnd ?_
   rw [if_neg (by omega)]
   refine Rds_byt.bnd0 ?_
   rw [if_neg (by omega)]
   exact Rds.ret
 rw [hb B R (8 * j + 3) (by omega) (by rw [← List.drop_drop, hd]; simp only [List.append_assoc]; rw [List.drop_append_of_le_length (by rw [length_digB]; exact Nat.le_refl _), List.drop_of_length_le (by rw [length_digB]; exact Nat.le_refl _), List.nil_append])]
 simp only [BR.bnd, BT.run, List.length_append, length_digB, length_bitsL]
 congr 1
 omega
end Go.Proofs.YtbcncdpaigljeaaGreatDoor.Aw
namespace Go.Proofs.YtbcncdpaigljeaaGreatDoor.Aw
open Go
set_option linter.unusedSimpArgs false
set_option linter.unusedVariables false
theorem stL_one {b : List UInt8} (h : b.length ≤ 65535) : stL b = blkS 1 b := by
 rw [stL, show (b.length - 1) / 65535 = 0 by omega]
 simp [stK]
theorem tlB_len {b : List UInt8} : (tlB b).length = 8 := by rw [tlB, List.length_append, length_leB4, length_leB4]
end Go.Proofs.YtbcncdpaigljeaaGreatDoor.Aw
namespace Go.Proofs.YtbcncdpaigljeaaGreatDoor.Aw
open Go
set_option linter.unusedSimpArgs false
set_option linter.unusedVariables false
def cds (l d : List Nat) : AV := .fp (.agg [.fp (.agg (trR l)) 0, .fp (.agg (trR d)) 0]) 0
def fxA : Bool → AV
 | true => cds fixL fixD
 | false => .sc (.pointer none)
theorem free_cds {l d : List Nat} : (cds l d).free = true := by simp only [cds, AV.free, AV.free.freeL, free_trR, Bool.and_self]
theorem free_fxA {t : Bool} : (fxA t).free = true := by
 cases t
 · rfl
 · exact free_cds
theorem ren_cds {ρ : Nat → Nat → Nat × Nat} {l d : List Nat} : ren ρ (cds l d) = cds l d := ren_free ρ _ free_cds
theorem ren_fxA {ρ : Nat → Nat → Nat × Nat} {t : Bool} : ren ρ (fxA t) = fxA t := ren_free ρ _ free_fxA
theorem cells_fxA {t : Bool} : cellsA (fxA t) = some [fxA t] := by cases t <;> rfl
def unR (t : Bool) (most g n : Nat) : List AV := [.op 1001 0 0, .own 1002 g none 0 n, int (most : Int), fxA t]
def unI (t : Bool) (most : Nat) (nl : Bool) (b : List UInt8) (i : Nat) (out : List UInt8) : List AO := [.row false (unR t most 0 out.length), .row false (rdR nl b i), .row (nl0 out.length) (out.map u8)]
def unO (g : Nat) (t : Bool) (most : Nat) (nl : Bool) (b : List UInt8) (i : Nat) (out : List UInt8) : List (Nat × Nat × AO) := [(1000, 0, .row false (unR t most g out.length)), (1001, 0, .row false (rdR nl b i)), (1002, g, .row (nl0 out.length) (out.map u8))]
theorem un_gl {t : Bool} {most : Nat} {nl : Bool} {b : List UInt8} {i : Nat} {out : List UInt8} : ∀ m cells, AO.row m cells ∈ unI t most nl b i out → AV.gl.glL 1 cells := by
 intro m cells h
 simp only [unI, List.mem_cons, AO.row.injEq, List.not_mem_nil, or_false] at h
 obtain ⟨-, rfl⟩ | ⟨-, rfl⟩ | ⟨-, rfl⟩ := h
 · simp only [unR, AV.gl.glL, AV.gl, int, and_true]
   exact ⟨by omega, by omega, trivial, gl_of_free 1 _ free_fxA⟩
 · simp only [rdR, AV.gl.glL, AV.gl, and_true]
   exact glL_of_free _ _ free_u8
 · exact glL_of_free _ _ free_u8
theorem inf_room_h [Tabs Tryz.prog] (t : Bool) (most : Nat) (hm : most ≤ 16777216) (nl : Bool) (b : List UInt8) (i : Nat) (out : List UInt8) (ho : out.length ≤ most) :
   HCon Tryz.prog n_inflate_unpacker_room [.op 1000 0 0] (unI t most nl b i out) (int ((most - out.length : Nat) : Int)) (unO 0 t most nl b i out) 1 := by
 refine HCon.of' mix Tryz.func100 rfl Tryz.ntmps100 e_inflate_unpacker_room r_inflate_unpacker_room (by simp) (by simp [AV.gl, AV.gl.glL, int]) un_gl ?_
 unfold s_inflate_unpacker_room
 have e : (most : Int) - (out.length : Int) = ((most - out.length : Nat) : Int) := by omega
 repeat (first | refine zR (ja4 @unI.eq_1 @unO.eq_1 @unR.eq_1 @e) ?_ | exact zU (ja4 @unI.eq_1 @unO.eq_1 @unR.eq_1 @e))
end Go.Proofs.YtbcncdpaigljeaaGreatDoor.Aw
namespace Go.Proofs.YtbcncdpaigljeaaGreatDoor.Aw
open Go
set_option linter.unusedSimpArgs false
set_option linter.unusedVariables false
end Go.Proofs.YtbcncdpaigljeaaGreatDoor.Aw
namespace Go.Proofs.YtbcncdpaigljeaaGreatDoor.Aw
open Go
set_option linter.unusedSimpArgs false
set_option linter.unusedVariables false
def kn : List Nat → Nat → Nat
 | [], _ => 0
 | x :: r, n => (if x < n then wt x else 0) + kn r n
end Go.Proofs.YtbcncdpaigljeaaGreatDoor.Aw
namespace Go.Proofs.YtbcncdpaigljeaaGreatDoor.Aw
open Go
set_option linter.unusedSimpArgs false
set_option linter.unusedVariables false
end Go.Proofs.YtbcncdpaigljeaaGreatDoor.Aw
namespace Go.Proofs.YtbcncdpaigljeaaGreatDoor.Aw
open Go
set_option linter.unusedSimpArgs false
set_option linter.unusedVariables false
def ansE {α : Type} : BR α → AV
 | .ok _ _ => int 0
 | .no e => int (e : Int)
def houS (K : Nat) (t : Bool) (most : Nat) (nl : Bool) (b : List UInt8) : BR (List UInt8) → List (Nat × Nat × AO)
 | .ok o j => unO K t most nl b j o
 | .no _ => []
end Go.Proofs.YtbcncdpaigljeaaGreatDoor.Aw
namespace Go.Proofs.YtbcncdpaigljeaaGreatDoor.Aw
open Go
set_option linter.unusedSimpArgs false
set_option linter.unusedVariables false
set_option maxHeartbeats 1000000 in
set_option maxRecDepth 100000 in
theorem inf_stored_h [Tabs Tryz.prog] (t : Bool) (most : Nat) (hm : most ≤ 16777216) (nl : Bool) (b : List UInt8) (hb : b.length ≤ 1000000) (hnl : nl = true → b = []) (i : Nat) (hi : i ≤ 8 * b.length) (out : List UInt8) (ho : out.length ≤ most) (r : BR (List UInt8)) (hr : (stoT most out).run (bitsL b) i = r) :
   HCon Tryz.prog n_inflate_unpacker_stored [.op 1000 0 0] (unI t most nl b i out) (ansE r) (houS 73 t most nl b r) 80 := by
 refine HCon.of' mix Tryz.func56 rfl Tryz.ntmps56 e_inflate_unpacker_stored r_inflate_unpacker_stored (by simp) (by simp [AV.gl, AV.gl.glL]) un_gl ?_
 unfold s_inflate_unpacker_stored
 rw [run_stoT hi] at hr
 obtain ⟨q, hq⟩ : ∃ q, q = (i + 7) / 8 := ⟨_, rfl⟩
 rw [← hq] at hr
 have hAl := huff_Align_h nl b hb i hi
 rw [← hq] at hAl
 repeat (first | refine zR (ja2 @unI.eq_1 @unR.eq_1) ?_ | exact zU (ja2 @unI.eq_1 @unR.eq_1))
 refine goC_h [(1001, 0)] 2000 hAl (by simp) (by simp) ?_ ?_ ?_
 iterate 2 (case _ => (first | exact yU @rdR.eq_1 | refine yR @rdR.eq_1 ?_))
 by_cases c1 : 8 * b.length < q * 8 + 16
 · rw [if_pos c1] at hr
   subst hr
   have hT := huff_Take_no nl b hb (q * 8) (by omega) 16 (decide_eq_false (by omega))
   repeat (first | refine zR (ja2 @rdR.eq_1 @unR.eq_1) ?_ | exact zU (ja2 @rdR.eq_1 @unR.eq_1))
   refine goC_h [(1001, 0)] 3000 hT (by simp) (by simp) ?_ ?_ ?_
   iterate 2 (case _ => (first | exact yU @rdR.eq_1 | refine yR @rdR.eq_1 ?_))
   repeat (first | refine zR (ja4 @ansE.eq_1 @ansE.eq_2 @houS.eq_1 @houS.eq_2) ?_ | exact zU (ja4 @ansE.eq_1 @ansE.eq_2 @houS.eq_1 @houS.eq_2))
 · rw [if_neg c1] at hr
   have hT := huff_Take_h nl b hb (q * 8) (by omega) 16 (by omega) (by omega)
   have hx1 := numAt_lt (b := b) (i := q * 8) (n := 16)
   obtain ⟨x, hx⟩ : ∃ x, x = numAt b (q * 8) 16 := ⟨_, rfl⟩
   rw [← hx] at hT hr hx1
   repeat (first | refine zR (ja2 @rdR.eq_1 @unR.eq_1) ?_ | exact zU (ja2 @rdR.eq_1 @unR.eq_1))
   refine goC_h [(1001, 0)] 3000 hT (by simp) (by simp) ?_ ?_ ?_
   iterate 2 (case _ => (first | exact yU @rdR.eq_1 | refine yR @rdR.eq_1 ?_))
   by_cases c2 : 8 * b.length < q * 8 + 32
   · rw [if_pos c2] at hr
     subst hr
     have hT := huff_Take_no nl b hb (q * 8 + 16) (by omega) 16 (decide_eq_false (by omega))
     repeat (first | refine zR (ja2 @rdR.eq_1 @unR.eq_1) ?_ | exact zU (ja2 @rdR.eq_1 @unR.eq_1))
     refine goC_h [(1001, 0)] 4000 hT (by simp) (by simp) ?_ ?_ ?_
     iterate 2 (case _ => (first | exact yU @rdR.eq_1 | refine yR @rdR.eq_1 ?_))
     repeat (first | refine zR (ja4 @ansE.eq_1 @ansE.eq_2 @houS.eq_1 @houS.eq_2) ?_ | exact zU (ja4 @ansE.eq_1 @ansE.eq_2 @houS.eq_1 @houS.eq_2))
   · rw [if_neg c2] at hr
     have hT := huff_Take_h nl b hb (q * 8 + 16) (by omega) 16 (by omega) (by omega)
     have hy1 := numAt_lt (b := b) (i := q * 8 + 16) (n := 16)
     obtain ⟨y, hy⟩ : ∃ y, y = numAt b (q * 8 + 16) 16 := ⟨_, rfl⟩
     rw [← hy] at hT hr hy1
     repeat (first | refine zR (ja2 @rdR.eq_1 @unR.eq_1) ?_ | exact zU (ja2 @rdR.eq_1 @unR.eq_1))
     refine goC_h [(1001, 0)] 4000 hT (by simp) (by simp) ?_ ?_ ?_
     iterate 2 (case _ => (first | exact yU @rdR.eq_1 | refine yR @rdR.eq_1 ?_))
     by_cases c3 : x + y ≠ 65535
     · rw [if_pos c3] at hr
       subst hr
       have d3 : decide ((x : Int) + (y : Int) = 65535) = false := decide_eq_false (by omega)
       repeat (first | refine zR (ja5 @ansE.eq_1 @ansE.eq_2 @houS.eq_1 @houS.eq_2 @d3) ?_ | exact zU (ja5 @ansE.eq_1 @ansE.eq_2 @houS.eq_1 @houS.eq_2 @d3))
     · rw [if_neg c3] at hr
       have d3 : decide ((x : Int) + (y : Int) = 65535) = true := decide_eq_true (by omega)
       have ej : q + 4 = (q * 8 + 16 + 16 + 7) / 8 := by omega
       by_cases c4 : b.length < q + 4 + x
       · rw [if_pos c4] at hr
         subst hr
         have hB := huff_Bytes_no nl b hb (q * 8 + 16 + 16) (by omega) (x : Int) (decide_eq_false (by omega))
         repeat (first | refine zR (ja3 @d3 @rdR.eq_1 @unR.eq_1) ?_ | exact zU (ja3 @d3 @rdR.eq_1 @unR.eq_1))
         refine goC_h [(1001, 0)] 5000 hB (by simp) (by simp) ?_ ?_ ?_
         iterate 2 (case _ => (first | exact yU @rdR.eq_1 | refine yR @rdR.eq_1 ?_))
         repeat (first | refine zR (ja4 @ansE.eq_1 @ansE.eq_2 @houS.eq_1 @houS.eq_2) ?_ | exact zU (ja4 @ansE.eq_1 @ansE.eq_2 @houS.eq_1 @houS.eq_2))
       · rw [if_neg c4] at hr
         have hB := huff_Bytes_h nl b hb hnl (q * 8 + 16 + 16) (by omega) (q + 4) ej x (by omega)
         have hlen : ((b.drop (q + 4)).take x).length = x := by rw [List.length_take, List.length_drop]; omega
         obtain ⟨z, hz⟩ : ∃ z, z = (b.drop (q + 4)).take x := ⟨_, rfl⟩
         rw [← hz] at hB hr hlen
         have hRo := inf_room_h t most hm nl b (8 * (q + 4 + x)) out ho
         repeat (first | refine zR (ja3 @d3 @rdR.eq_1 @unR.eq_1) ?_ | exact zU (ja3 @d3 @rdR.eq_1 @unR.eq_1))
         refine goC_h [(1001, 0)] 5000 hB (by simp) (by simp) ?_ ?_ ?_
         iterate 2 (case _ => (first | exact yU @rdR.eq_1 | refine yR @rdR.eq_1 ?_))
         repeat (first | refine zR (ja2 @rdR.eq_1 @unR.eq_1) ?_ | exact zU (ja2 @rdR.eq_1 @unR.eq_1))
         refine goC_h [(1000, 0), (1001, 0), (1002, 0)] 6000 hRo (by simp) (by simp) ?_ ?_ ?_
         iterate 2 (case _ => (first | exact yU (ja4 @unI.eq_1 @unR.eq_1 @rdR.eq_1 @ren_fxA) | refine yR (ja4 @unI.eq_1 @unR.eq_1 @rdR.eq_1 @ren_fxA) ?_))
         by_cases c5 : most < out.length + x
         · rw [if_pos c5] at hr
           subst hr
           have d5 : decide (((most - out.length : Nat) : Int) < (x : Int)) = true := decide_eq_true (by omega)
           repeat (first | refine zR (ja5 @ansE.eq_1 @ansE.eq_2 @houS.eq_1 @houS.eq_2 @d5) ?_ | exact zU (ja5 @ansE.eq_1 @ansE.eq_2 @houS.eq_1 @houS.eq_2 @d5))
         · rw [if_neg c5] at hr
           subst hr
           have d5 : decide (((most - out.length : Nat) : Int) < (x : Int)) = false := decide_eq_false (by omega)
           have hn0 : nl0 (out.length + x) = (nl0 out.length && (z.map u8).isEmpty) := by
             cases out with
             | nil => cases z with
                      | nil => simp at hlen; subst hlen; rfl
                      | cons a z => simp at hlen; rw [← hlen]; rfl
             | cons a out => simp only [List.length_cons]; rw [nl0_pos (by omega), nl0_pos (by omega)]; rfl
           repeat (first | refine zR (ja8 @ansE.eq_1 @ansE.eq_2 @houS.eq_1 @houS.eq_2 @d5 @unO.eq_1 @unR.eq_1 (ja5 @rdR.eq_1 @ren_fxA @cells_fxA @hlen @hn0)) ?_ | exact zU (ja8 @ansE.eq_1 @ansE.eq_2 @houS.eq_1 @houS.eq_2 @d5 @unO.eq_1 @unR.eq_1 (ja5 @rdR.eq_1 @ren_fxA @cells_fxA @hlen @hn0)))
end Go.Proofs.YtbcncdpaigljeaaGreatDoor.Aw
namespace Go.Proofs.YtbcncdpaigljeaaGreatDoor.Aw
open Go
set_option linter.unusedSimpArgs false
set_option linter.unusedVariables false
end Go.Proofs.YtbcncdpaigljeaaGreatDoor.Aw
namespace Go.Proofs.YtbcncdpaigljeaaGreatDoor.Aw
open Go
set_option linter.unusedSimpArgs false
set_option linter.unusedVariables false
end Go.Proofs.YtbcncdpaigljeaaGreatDoor.Aw
namespace Go.Proofs.YtbcncdpaigljeaaGreatDoor.Aw
open Go
set_option linter.unusedSimpArgs false
set_option linter.unusedVariables false
end Go.Proofs.YtbcncdpaigljeaaGreatDoor.Aw
namespace Go.Proofs.YtbcncdpaigljeaaGreatDoor.Aw
open Go
set_option linter.unusedSimpArgs false
set_option linter.unusedVariables false
end Go.Proofs.YtbcncdpaigljeaaGreatDoor.Aw
namespace Go.Proofs.YtbcncdpaigljeaaGreatDoor.Aw
open Go
set_option linter.unusedSimpArgs false
set_option linter.unusedVariables false
end Go.Proofs.YtbcncdpaigljeaaGreatDoor.Aw
namespace Go.Proofs.YtbcncdpaigljeaaGreatDoor.Aw
open Go
set_option linter.unusedSimpArgs false
set_option linter.unusedVariables false
theorem fxA_false : fxA false = .sc (.pointer none) := rfl
end Go.Proofs.YtbcncdpaigljeaaGreatDoor.Aw
namespace Go.Proofs.YtbcncdpaigljeaaGreatDoor.Aw
open Go
set_option linter.unusedSimpArgs false
set_option linter.unusedVariables false
set_option maxHeartbeats 1000000 in
theorem one_bits {c R : List UInt8} (hc : c.length ≤ 65535) {most : Nat} (hm : c.length ≤ most) : numAt (blkS 1 c ++ R) 0 3 = 1 ∧ (stoT most []).run (bitsL (blkS 1 c ++ R)) 3 = .ok c (8 * (c.length + 5)) := by
 have h := blk_run (most := most) (F := 1) (out := []) (u := 1) (by omega) hc (by simpa using hm) (B := bitsL (blkS 1 c ++ R)) (R := bitsL R) (j := 0) (Nat.zero_le _) (by rw [Nat.mul_zero, List.drop_zero, bitsL_append])
 have hl : 0 + 3 ≤ 8 * (blkS 1 c ++ R).length := by rw [List.length_append, length_blkS]; omega
 have h1 : numAt (blkS 1 c ++ R) 0 3 = 1 := by
   have e1 := Rds_num (v := 1) (n := 3) (bitsL (blkS 1 c ++ R)) (digB 0 5 ++ (digB c.length 16 ++ (digB (65535 - c.length) 16 ++ bitsL c)) ++ bitsL R) 0 (Nat.zero_le _) (by rw [List.drop_zero, bitsL_append, blk_bits (by omega) hc]; simp only [List.append_assoc])
   have e2 := run_num (b := blkS 1 c ++ R) (i := 0) (n := 3) (Nat.zero_le _)
   rw [if_pos hl, e1] at e2
   simp only [BR.ok.injEq] at e2
   exact e2.1.symm
 refine ⟨h1, ?_⟩
 rw [Nat.mul_zero, blkT, run_bnd, run_num (Nat.zero_le _), if_pos hl] at h
 simp only [BR.bnd] at h
 rw [run_bnd, h1, bodT, if_pos (by omega)] at h
 simp only [Nat.zero_add] at h
 generalize (stoT most []).run (bitsL (blkS 1 c ++ R)) 3 = r at h ⊢
 cases r with
 | no e => cases h
 | ok o j =>
   simp only [BR.bnd, BT.run] at h
   injection h with a b
   have a2 := congrArg Prod.snd a
   simp only [List.nil_append] at a2
   rw [a2, b]
   congr 1
   omega
set_option maxHeartbeats 2000000 in
set_option maxRecDepth 100000 in
theorem inf_block_one [Tabs Tryz.prog] (most : Nat) (hm : most ≤ 16777216) (c b : List UInt8) (hl : b.length ≤ 1000000) (h3 : 0 + 3 ≤ 8 * b.length) (h1 : numAt b 0 3 = 1) (hs : (stoT most []).run (bitsL b) 3 = .ok c (8 * (c.length + 5))) :
   HCon Tryz.prog n_inflate_unpacker_block [.op 1000 0 0] (unI false most false b 0 []) (.tup [boo true, int 0]) (unO 104 false most false b (8 * (c.length + 5)) c) 200 := by
 refine HCon.of' mix Tryz.func26 rfl Tryz.ntmps26 e_inflate_unpacker_block r_inflate_unpacker_block (by simp) (by simp [AV.gl, AV.gl.glL, int]) un_gl ?_
 unfold s_inflate_unpacker_block
 have hT := huff_Take_h false b hl 0 (Nat.zero_le _) 3 (by omega) h3
 obtain ⟨h, hh⟩ : ∃ h, h = numAt b 0 3 := ⟨_, rfl⟩
 rw [← hh] at hT h1
 have hS := inf_stored_h false most hm false b hl (fun h => by cases h) 3 (by omega) [] (Nat.zero_le _) _ hs
 have hlast : decide (((h % 2 : Nat) : Int) = 1) = true := decide_eq_true (by omega)
 have hl2 : decide ((h : Int) = 1) = true := decide_eq_true (by omega)
 have hp : h / 2 = 0 := by omega
 have h7 : h < 8 := by omega
 obtain ⟨j, hj⟩ : ∃ j, j = 8 * (c.length + 5) := ⟨_, rfl⟩
 rw [← hj] at hS ⊢
 clear hs
 repeat (first | refine zR (ja2 @unI.eq_1 @unR.eq_1) ?_ | exact zU (ja2 @unI.eq_1 @unR.eq_1))
 refine goC_h [(1001, 0)] 2000 hT (by simp) (by simp) ?_ ?_ ?_
 iterate 2 (case _ => (first | exact yU @rdR.eq_1 | refine yR @rdR.eq_1 ?_))
 repeat (first | refine zR (ja4 @unR.eq_1 @rdR.eq_1 @hp @Nat.pow_one) ?_ | exact zU (ja4 @unR.eq_1 @rdR.eq_1 @hp @Nat.pow_one))
 refine goC_h [(1000, 0), (1001, 0), (1002, 0)] 3000 hS (by simp) (by simp) ?_ ?_ ?_
 iterate 2 (case _ => (first | exact yU (ja4 @unI.eq_1 @unR.eq_1 @rdR.eq_1 @ren_fxA) | refine yR (ja4 @unI.eq_1 @unR.eq_1 @rdR.eq_1 @ren_fxA) ?_))
 repeat (first | refine zR (ja8 @ansE.eq_1 @ansE.eq_2 @houS.eq_1 @houS.eq_2 @unO.eq_1 @unR.eq_1 @rdR.eq_1 (ja4 @ren_fxA @ren_cds @hlast @hl2)) ?_ | exact zU (ja8 @ansE.eq_1 @ansE.eq_2 @houS.eq_1 @houS.eq_2 @unO.eq_1 @unR.eq_1 @rdR.eq_1 (ja4 @ren_fxA @ren_cds @hlast @hl2)))
set_option maxHeartbeats 2000000 in
set_option maxRecDepth 100000 in
theorem inf_one_c [Tabs Tryz.prog] (c R : List UInt8) (hc : c.length ≤ 65535) (hR : R.length ≤ 100000) (m : Nat) (hm : m ≤ 16777216) (hcm : c.length ≤ m) :
   Con Tryz.prog n_inflate_Inflate [.sl false none ((blkS 1 c ++ R).map u8), int (m : Int)] (.tup [.sl (nl0 c.length) none (c.map u8), int ((c.length + 5 : Nat) : Int), int 0]) := by
 refine Con.of' mix Tryz.func10 rfl Tryz.ntmps10 e_inflate_Inflate r_inflate_Inflate (by simp) (by simp only [AV.free, AV.free.freeL, free_u8, int, Bool.and_self]) (by simp only [AV.free, AV.free.freeL, free_u8, int, Bool.and_self]) ?_
 unfold s_inflate_Inflate
 obtain ⟨k1, k2⟩ := one_bits (R := R) hc hcm
 have h3 : 0 + 3 ≤ 8 * (blkS 1 c ++ R).length := by rw [List.length_append, length_blkS]; omega
 have hl : (blkS 1 c ++ R).length ≤ 1000000 := by rw [List.length_append, length_blkS]; omega
 obtain ⟨b, hb⟩ : ∃ b, b = blkS 1 c ++ R := ⟨_, rfl⟩
 rw [← hb] at k1 k2 h3 hl ⊢
 have hB := inf_block_one m hm c b hl h3 k1 k2
 obtain ⟨j, hj⟩ : ∃ j, j = 8 * (c.length + 5) := ⟨_, rfl⟩
 rw [← hj] at hB
 have hA := huff_At_h false b j
 have d1 : decide ((m : Int) < 0) = false := decide_eq_false (by omega)
 have d2 : decide ((16777216 : Int) < (m : Int)) = false := decide_eq_false (by omega)
 obtain ⟨w, hw⟩ : ∃ w, w = j + 7 := ⟨_, rfl⟩
 have ew : (j : Int) + 8 - 1 = (w : Int) := by omega
 have ec : c.length + 5 = w / 8 := by omega
 rw [ec]
 clear k1 k2 hb hj
 repeat (first | refine zR (ja2 @d1 @d2) ?_ | exact zU (ja2 @d1 @d2))
 refine goC_h [] 2000 (huff_NewReader_h false b hl (fun h => by cases h)) (by simp) (by simp) ?_ ?_ ?_
 iterate 2 (case _ => (first | exact yT | refine yS ?_))
 iterate 1 (first | refine zR @rdR.eq_1 ?_ | exact zU @rdR.eq_1)
 refine SWp.adoptC 19 2 1 100 none (nl := false) (cells := [.op 2006 1 0, .sc (.slice none 0 0), int (m : Int), .sc (.pointer none)]) (by (first | exact yT | refine yS ?_)) rfl (by decide) ?_
 repeat (first | refine zR (ja2 @List.set_cons_zero.{0} @List.set_cons_succ.{0}) ?_ | exact zU (ja2 @List.set_cons_zero.{0} @List.set_cons_succ.{0}))
 refine SWp.unroll ?_
 repeat (first | refine zS ?_ | exact zT)
 refine goC_h [(19, 2), (2006, 1), (100, 3)] 3000 hB (by simp) (by simp) ?_ ?_ ?_
 iterate 2 (case _ => (first | exact yU (ja5 @unI.eq_1 @unR.eq_1 @rdR.eq_1 @fxA_false @nl0_zero) | refine yR (ja5 @unI.eq_1 @unR.eq_1 @rdR.eq_1 @fxA_false @nl0_zero) ?_))
 repeat (first | refine zR (ja5 @unO.eq_1 @unR.eq_1 @rdR.eq_1 @ren_fxA @fxA_false) ?_ | exact zU (ja5 @unO.eq_1 @unR.eq_1 @rdR.eq_1 @ren_fxA @fxA_false))
 refine goC_h [(2006, 1)] 4000 hA (by simp) (by simp) ?_ ?_ ?_
 iterate 2 (case _ => (first | exact yU @rdR.eq_1 | refine yR @rdR.eq_1 ?_))
 repeat (first | refine zR (ja2 @rdR.eq_1 @ew) ?_ | exact zU (ja2 @rdR.eq_1 @ew))
 all_goals trace_state
end Go.Proofs.YtbcncdpaigljeaaGreatDoor.Aw
namespace Go.Proofs.YtbcncdpaigljeaaGreatDoor.Aw
open Go
set_option linter.unusedSimpArgs false
set_option linter.unusedVariables false
theorem gz_Pack_c [Tabs Tryz.prog] (nm : ByteArray) (hn : nm.data.toList.length ≤ 200) (hz : Lib.indexByte nm.data.toList 0 < 0) (mt : Nat) (hm : mt < 4294967296) (nl : Bool) (b : List UInt8) (hb : b.length ≤ 1000000) (how : Int) (K : List UInt8) (hK : K.length ≤ 1000000)
   (hD : Con Tryz.prog n_deflate_Deflate [.sl nl none (b.map u8), int how] (.tup [.sl false none (K.map u8), int 0])) :
   Con Tryz.prog n_gzip_Pack [mbA nm mt nl b, int how] (.tup [.sl false none ((hdB nm.data.toList mt ++ (K ++ tlB b)).map u8), int 0]) := by
 obtain ⟨n, hn'⟩ : ∃ n, n = (hdB nm.data.toList mt ++ (K ++ tlB b)).length := ⟨_, rfl⟩
 have h := gz_Pack_h nm hn hz mt hm nl b hb how K hK hD n hn'
 refine h.con _ ?_ ?_
 · have ht : ((hdB nm.data.toList mt ++ (K ++ tlB b)).map u8).take n = (hdB nm.data.toList mt ++ (K ++ tlB b)).map u8 := List.take_of_length_le (by simp only [List.length_map]; omega)
   have hl : n ≤ ((hdB nm.data.toList mt ++ (K ++ tlB b)).map u8).length := by simp only [List.length_map]; omega
   obtain ⟨X, hX⟩ : ∃ X, X = hdB nm.data.toList mt ++ (K ++ tlB b) := ⟨_, rfl⟩
   rw [← hX] at ht hl ⊢
   rw [List.length_map] at hl
   (first | exact yU (ja3 @ht @hl @List.length_map.{0, 0}) | refine yR (ja3 @ht @hl @List.length_map.{0, 0}) ?_)
 · simp only [AV.free, AV.free.freeL, free_u8, int, Bool.and_self]
theorem eqB_self {x : AV} : eqB x x = true := eqB_t rfl
theorem fault_like {a e : Int} (ha : 0 ≤ a) (ha' : a ≤ 1000000000) (he : 0 ≤ e) (he' : e ≤ 1000000000) : likeA (.agg #[.string ⟨#[]⟩, .int .i64 0, .int .i64 0]) (.agg [.sc (.string ⟨#[]⟩), .sc (.int .i64 a), .sc (.int .i64 e)]) = True := by
 have k1 : IntKind.i64.min = -9223372036854775808 := rfl
 have k2 : IntKind.i64.max = 9223372036854775807 := rfl
 refine eq_true ?_
 simp only [likeA, likeAL, likeA1, k1, k2, and_true, true_and]
 refine ⟨by decide, by omega, by omega⟩
theorem aw6 : hdB [110] 1 ++ (stL [97] ++ tlB [97]) = [31, 139, 8, 8, 1, 0, 0, 0, 0, 3, 110, 0, 1, 1, 0, 254, 255, 97, 67, 190, 183, 232, 1, 0, 0, 0] := by decide +kernel
set_option maxHeartbeats 1000000 in
set_option maxRecDepth 100000 in
theorem law06_awake_c [Tabs Tryz.prog] : Con Tryz.prog n_drayagelaw06_awake [] (boo true) := by
 refine Con.of' mix Tryz.func12 rfl Tryz.ntmps12 e_drayagelaw06_awake r_drayagelaw06_awake (by simp) rfl rfl ?_
 unfold s_drayagelaw06_awake
 have p1 := gz_Pack_c ⟨#[110]⟩ (by decide) (by decide) 1 (by omega) false [97] (by decide) 0 (stL [97]) (by decide) (Deflate_0 false [97] (by decide))
 have hI := inf_one_c [97] (tlB [97]) (by decide) (by rw [tlB_len]; omega) 10 (by omega) (by decide)
 rw [← stL_one (by decide)] at hI
 have p2 := gz_Unpack_one [110] (by decide) (by decide) 1 (by omega) (stL [97] ++ tlB [97]) _ aw6.symm (by decide) (by rw [stL_one (by decide), List.length_append, length_blkS, tlB_len]; decide) 10 (by omega) _ [97] (by decide) _ hI (by rw [stL_one (by decide), List.length_append, length_blkS, tlB_len]) (by decide +kernel)
 rw [show (⟨#[110]⟩ : ByteArray).data.toList = [110] from rfl, aw6] at p1
 obtain ⟨B, hB⟩ : ∃ B : List UInt8, B = [31, 139, 8, 8, 1, 0, 0, 0, 0, 3, 110, 0, 1, 1, 0, 254, 255, 97, 67, 190, 183, 232, 1, 0, 0, 0] := ⟨_, rfl⟩
 rw [← hB] at p1 p2
 have hBl : B.length = 26 := by rw [hB]; rfl
 have hB12 : ((B.take 12).map u8).map unu8 = [31, 139, 8, 8, 1, 0, 0, 0, 0, 3, 110, 0] := by rw [hB]; decide
 have e1 : ([97] : List UInt8).map u8 = [.sc (.int .u8 97)] := rfl
 have u1 : unu8 (AV.sc (.int .u8 97)) = 97 := rfl
 have lk := fault_like (a := 0) (e := 0) (by omega) (by omega) (by omega) (by omega)
 simp only [mbA, e1] at p1 p2
 repeat (first | refine zS ?_ | exact zT)
 refine goC_p _ (.inl ⟨rfl, p1⟩) ?_
 repeat (first | refine zS ?_ | exact zT)
 refine goC_p _ (.inl ⟨by simp only [AV.free, AV.free.freeL, free_u8, Bool.and_self], p2⟩) ?_
 repeat (first | refine zR (ja6 @lk @eqB_self @hBl @hB12 @List.length_map.{0, 0} @u1) ?_ | exact zU (ja6 @lk @eqB_self @hBl @hB12 @List.length_map.{0, 0} @u1))
 refine ⟨by rw [hB]; rfl, ?_⟩
 repeat (first | refine zS ?_ | exact zT)
end Go.Proofs.YtbcncdpaigljeaaGreatDoor.Aw
namespace Go.Proofs.YtbcncdpaigljeaaGreatDoor.Aw
open Go
set_option linter.unusedSimpArgs false
set_option linter.unusedVariables false
set_option maxHeartbeats 1000000 in
set_option maxRecDepth 100000 in
theorem GzipPacks_law' [Tabs Tryz.prog] (htD : Tabs.tab Tryz.prog 0 = some (tlO.map nA)) (nm : List UInt8) (mt : Int) (nl : Bool) (b : List UInt8) (hb : b.length ≤ maxLen) (how : Int) :
   Con Tryz.prog n_drayagelaw06_GzipPacks [mbA ⟨nm.toArray⟩ mt nl b, int how] (boo true) := by
 refine Con.of' mix Tryz.func4 rfl Tryz.ntmps4 e_drayagelaw06_GzipPacks r_drayagelaw06_GzipPacks (by simp) (by simp only [mbA, AV.free, AV.free.freeL, free_u8, int, Bool.and_self]) rfl ?_
 unfold s_drayagelaw06_GzipPacks
 repeat (first | refine zR @mbA.eq_1 ?_ | exact zU @mbA.eq_1)
 refine goC_p _ (.inl ⟨rfl, law06_awake_c⟩) ?_
 by_cases c1 : 3000 < (b.length : Int)
 · have d1 := decide_eq_true c1
   repeat (first | refine zR (ja2 @mbA.eq_1 @d1) ?_ | exact zU (ja2 @mbA.eq_1 @d1))
 have d1 := decide_eq_false c1
 by_cases c2 : 1000 < (nm.length : Int)
 · have d2 := decide_eq_true c2
   repeat (first | refine zR (ja3 @mbA.eq_1 @d1 @d2) ?_ | exact zU (ja3 @mbA.eq_1 @d1 @d2))
 have d2 := decide_eq_false c2
 have q2 := Deflate_c htD nl b (by omega) how
 have hlen := dflR_len (b := b) (by omega) (how := how)
 have q3 := ref_Bad_c nm (by omega) mt nl b
 obtain ⟨⟨K, f⟩, hr⟩ : ∃ r, r = dflR b how := ⟨_, rfl⟩
 rw [← hr] at q2 hlen
 simp only at hlen
 have fa : AV.free.freeL [mbA ⟨nm.toArray⟩ mt nl b, int how] = true := by simp only [mbA, AV.free, AV.free.freeL, free_u8, int, Bool.and_self]
 have fm : AV.free.freeL [mbA ⟨nm.toArray⟩ mt nl b] = true := by simp only [mbA, AV.free, AV.free.freeL, free_u8, int, Bool.and_self]
 have fb : AV.free.freeL [.sl nl none (b.map u8), int how] = true := by simp only [AV.free, AV.free.freeL, free_u8, int, Bool.and_self]
 by_cases hB : badM nm mt = 0
 · rw [hB] at q3
   by_cases hf : f = 0
   · subst hf
     have e2 : ansF (K, 0) = .tup [.sl false none (K.map u8), int 0] := rfl
     rw [e2] at q2
     have hh : 0 ≤ mt ∧ mt ≤ 4294967295 ∧ nm.length ≤ 200 ∧ Lib.indexByte nm 0 < 0 := by
       unfold badM at hB
       split at hB
       · cases hB
       · split at hB
         · cases hB
         · omega
     obtain ⟨t, rfl⟩ : ∃ t : Nat, mt = t := ⟨mt.toNat, by omega⟩
     have q1 := gz_Pack_c ⟨nm.toArray⟩ hh.2.2.1 hh.2.2.2 t (by omega) nl b (by omega) how K hlen q2
     have q4 := ref_Wrapped_c nm hh.2.2.1 t (by omega) nl b (by omega) K hlen
     rw [show (⟨nm.toArray⟩ : ByteArray).data.toList = nm from rfl] at q1
     obtain ⟨X, hX⟩ : ∃ X, X = hdB nm t ++ (K ++ tlB b) := ⟨_, rfl⟩
     rw [← hX] at q1 q4
     have fw : AV.free.freeL [mbA ⟨nm.toArray⟩ (t : Int) nl b, .sl false none (K.map u8)] = true := by simp only [mbA, AV.free, AV.free.freeL, free_u8, int, Bool.and_self]
     clear hX hr hB
     repeat (first | refine zR (ja3 @mbA.eq_1 @d1 @d2) ?_ | exact zU (ja3 @mbA.eq_1 @d1 @d2))
     refine goC_p _ (.inl ⟨fa, q1⟩) ?_
     repeat (first | refine zS ?_ | exact zT)
     refine goC_p _ (.inl ⟨fb, q2⟩) ?_
     repeat (first | refine zS ?_ | exact zT)
     refine goC_p _ (.inl ⟨fm, q3⟩) ?_
     repeat (first | refine zS ?_ | exact zT)
     refine goC_p _ (.inl ⟨fw, q4⟩) ?_
     repeat (first | refine zS ?_ | exact zT)
   · have e2 : ansF (K, f) = .tup [.sc (.slice none 0 0), int (f : Int)] := if_neg hf
     rw [e2] at q2
     have q1 := gz_Pack_no nm mt nl b how hB f hf q2
     have df : decide ((f : Int) = 0) = false := decide_eq_false (by omega)
     have dg : decide ((f : Int) = (f : Int)) = true := decide_eq_true rfl
     clear hr hB
     repeat (first | refine zR (ja3 @mbA.eq_1 @d1 @d2) ?_ | exact zU (ja3 @mbA.eq_1 @d1 @d2))
     refine goC_p _ (.inl ⟨fa, q1⟩) ?_
     repeat (first | refine zS ?_ | exact zT)
     refine goC_p _ (.inl ⟨fb, q2⟩) ?_
     repeat (first | refine zS ?_ | exact zT)
     refine goC_p _ (.inl ⟨fm, q3⟩) ?_
     repeat (first | refine zR (ja2 @df @dg) ?_ | exact zU (ja2 @df @dg))
 · have q1 := gz_Pack_bad nm mt nl b how hB
   obtain ⟨g, hg⟩ : ∃ g, g = badM nm mt := ⟨_, rfl⟩
   rw [← hg] at q1 q3 hB
   have df : decide ((g : Int) = 0) = false := decide_eq_false (by omega)
   have dg : decide ((g : Int) = (g : Int)) = true := decide_eq_true rfl
   by_cases hf : f = 0
   · subst hf
     have e2 : ansF (K, 0) = .tup [.sl false none (K.map u8), int 0] := rfl
     rw [e2] at q2
     clear hr hg
     repeat (first | refine zR (ja3 @mbA.eq_1 @d1 @d2) ?_ | exact zU (ja3 @mbA.eq_1 @d1 @d2))
     refine goC_p _ (.inl ⟨fa, q1⟩) ?_
     repeat (first | refine zS ?_ | exact zT)
     refine goC_p _ (.inl ⟨fb, q2⟩) ?_
     repeat (first | refine zS ?_ | exact zT)
     refine goC_p _ (.inl ⟨fm, q3⟩) ?_
     repeat (first | refine zR (ja2 @df @dg) ?_ | exact zU (ja2 @df @dg))
   · have e2 : ansF (K, f) = .tup [.sc (.slice none 0 0), int (f : Int)] := if_neg hf
     rw [e2] at q2
     clear hr hg
     repeat (first | refine zR (ja3 @mbA.eq_1 @d1 @d2) ?_ | exact zU (ja3 @mbA.eq_1 @d1 @d2))
     refine goC_p _ (.inl ⟨fa, q1⟩) ?_
     repeat (first | refine zS ?_ | exact zT)
     refine goC_p _ (.inl ⟨fb, q2⟩) ?_
     repeat (first | refine zS ?_ | exact zT)
     refine goC_p _ (.inl ⟨fm, q3⟩) ?_
     repeat (first | refine zR (ja2 @df @dg) ?_ | exact zU (ja2 @df @dg))
end Go.Proofs.YtbcncdpaigljeaaGreatDoor.Aw
namespace Go.Proofs.YtbcncdpaigljeaaGreatDoor.Aw
open Go
set_option linter.unusedSimpArgs false
set_option linter.unusedVariables false
theorem laid_var {P : Program} {w : World} {n : String} {d : DataW Unit} : ∀ {l : List (String × DataW Unit)} {ps : List MemPlace}, DataW.LaidVars P w l ps → (n, d) ∈ l →
   ∃ g t cs fuel p, P.globalNamed n = some g ∧ (P.globals[g]?).map (·.type) = some t ∧ w.var? P n = some cs ∧ DataW.trod (fun _ => ()) P w 0 (fun _ => true) false fuel t cs.toList = some (d, p)
 | [], _, _, hm => by simp at hm
 | (n', d') :: r, ps, h, hm => by
   obtain ⟨g, t, cs, fuel, p, q, h1, h2, h3, h4, h5, _⟩ := h
   rcases List.mem_cons.1 hm with e | hm
   · cases e; exact ⟨g, t, cs, fuel, p, h1, h2, h3, h4⟩
   · exact laid_var h5 hm
theorem ok_of {P : Program} {W : World} {n : String} {g : Nat} {cs : Array Value} (hg : P.globalNamed n = some g) (zs : List Value) (h3 : W.var? P n = some cs) (hz : cs.toList = zs) (h1 : ∀ v ∈ zs, v.oneCell' = true) :
   (all W).S g ∧ AV.free.freeL (zs.map AV.sc) = true ∧ ∃ (cs : List Value) (E : TypeId) (fr : Nat × Nat), RdL ⟨(all W).S, fun _ _ => none⟩ W (zs.map AV.sc) cs ∧ W.heap[g]? = some (Obj.cells cs.toArray E fr) ∧ ∀ v ∈ cs, v.oneCell' = true := by
 unfold World.var? at h3
 rw [hg, Option.bind_some] at h3
 split at h3
 · rename_i cs' E fr hheap
   simp only [Option.some.injEq] at h3
   subst h3
   exact ⟨lt_of_some hheap, free_sc _, zs, E, fr, rdL_sc _, by rw [hheap, ← hz], h1⟩
 · simp at h3
theorem map_nA_sc (l : List Nat) : l.map nA = (l.map fun x : Nat => Value.int .i64 (x : Int)).map AV.sc := by simp only [List.map_map]; rfl
theorem dataI : (Rows.laid_drayage_inflate_tellers : DataW Unit) = Lib.tabData .i64 (tells.map fun x : Nat => (x : Int)) := by kernel_rfl
theorem dataD : (Rows.laid_drayage_deflate_tellers : DataW Unit) = Lib.tabData .i64 (tells.map fun x : Nat => (x : Int)) := by kernel_rfl
theorem globI : Tryz.prog.globalNamed "drayage/inflate.tellers" = some 1 := by kernel_rfl
theorem globD : Tryz.prog.globalNamed "drayage/deflate.tellers" = some 0 := by kernel_rfl
theorem gtyI : (Tryz.prog.globals[1]?).map (·.type) = some 155 := by kernel_rfl
theorem gtyD : (Tryz.prog.globals[0]?).map (·.type) = some 155 := by kernel_rfl
@[reducible] def two_tabs : Tabs Tryz.prog := ⟨fun g => if g = 1 then some (tells.map nA) else if g = 0 then some (tells.map nA) else none⟩
theorem two_tabD : @Tabs.tab Tryz.prog two_tabs 0 = some (tells.map nA) := rfl
theorem two_tabOk (W : World) (h : laidMetH Tryz.prog [("drayage/deflate.tellers", Rows.laid_drayage_deflate_tellers), ("drayage/inflate.tellers", Rows.laid_drayage_inflate_tellers)] W) : @TabOk Tryz.prog two_tabs (all W).S W := by
 rw [MakeChecks.laidMetH_plain _ _ _ (by kernel_rfl)] at h
 obtain ⟨ps, h, _⟩ := h
 obtain ⟨g1, t1, cs1, fuel1, p1, a1, b1, c1, d1⟩ := laid_var (n := "drayage/inflate.tellers") (d := Rows.laid_drayage_inflate_tellers) h (by simp)
 obtain ⟨g2, t2, cs2, fuel2, p2, a2, b2, c2, d2⟩ := laid_var (n := "drayage/deflate.tellers") (d := Rows.laid_drayage_deflate_tellers) h (by simp)
 obtain rfl := Option.some.inj (globI.symm.trans a1)
 obtain rfl := Option.some.inj (gtyI.symm.trans b1)
 obtain rfl := Option.some.inj (globD.symm.trans a2)
 obtain rfl := Option.some.inj (gtyD.symm.trans b2)
 rw [dataI] at d1
 rw [dataD] at d2
 have e1 := Lib.cells_of_tab Tryz.underlying155 Tryz.underlying3 (by kernel_rfl) (by kernel_rfl) d1
 have e2 := Lib.cells_of_tab Tryz.underlying155 Tryz.underlying3 (by kernel_rfl) (by kernel_rfl) d2
 intro g xs hg
 simp only [two_tabs, Tabs.tab] at hg
 split at hg
 · rename_i e
   subst e
   cases hg
   rw [map_nA_sc]
   refine ok_of globI _ c1 (e1.trans (by rw [List.map_map]; rfl)) ?_
   intro v hv
   obtain ⟨z, _, rfl⟩ := List.mem_map.1 hv
   rfl
 split at hg
 · rename_i e
   subst e
   cases hg
   rw [map_nA_sc]
   refine ok_of globD _ c2 (e2.trans (by rw [List.map_map]; rfl)) ?_
   intro v hv
   obtain ⟨z, _, rfl⟩ := List.mem_map.1 hv
   rfl
 · simp at hg
end Go.Proofs.YtbcncdpaigljeaaGreatDoor.Aw
namespace Go.Proofs.YtbcncdpaigljeaaGreatDoor.Aw
open Go
set_option linter.unusedSimpArgs false
set_option linter.unusedVariables false
theorem tlO_tells : tlO = tells := rfl
@[reducible] def GzipPacks_tabs : Tabs Tryz.prog := two_tabs
theorem GzipPacks_tabOk (W : World) (h : laidMetH Tryz.prog Rows.gzipPacksRow.laid W) : @TabOk Tryz.prog GzipPacks_tabs (all W).S W := two_tabOk W h
theorem GzipPacks_law (x : List UInt8 × Int × (Bool × List UInt8) × Unit) (hx : x.1.length ≤ maxLen ∧ (IntKind.i64.min ≤ x.2.1 ∧ x.2.1 ≤ IntKind.i64.max) ∧ (x.2.2.1.2.length ≤ maxLen ∧ (x.2.2.1.1 = true → x.2.2.1.2 = []) ∧ ∀ a ∈ x.2.2.1.2, True) ∧ True) (how : Int) (h3 : IntKind.i64.min ≤ how) (h4 : how ≤ IntKind.i64.max) :
   @Con Tryz.prog GzipPacks_tabs n_drayagelaw06_GzipPacks [.agg ([str x.1] ++ ([.sc (.int .i64 x.2.1)] ++ ([.sl x.2.2.1.1 none (x.2.2.1.2.map u8)] ++ []))), int how] (boo true) :=
 @GzipPacks_law' two_tabs (by rw [tlO_tells]; exact two_tabD) x.1 x.2.1 x.2.2.1.1 x.2.2.1.2 hx.2.2.1.1 how
end Go.Proofs.YtbcncdpaigljeaaGreatDoor.Aw
