/-
  CurveKnown: what chapter 9 says of x 0 with the bit, of a y that is not below P, of points that are none.
  Conditions: none.
-/
import Derived.Test.YtfmclkmmkceldaaCvA
import Derived.Test.YtfmclkmmkceldaaFdO
namespace Go.Proofs.Ytfmclkmmkceldaa
open Go.RowKit

set_option linter.unusedSimpArgs false
set_option linter.unusedVariables false
open Go.ChangeShapes Go.WideShapes Go.ChangeAt
/-- x 0, y - 1. -/
def pmin : Pt := ⟨0, -1, Fin.ext (by decide +kernel)⟩
theorem Sub01 (w : World) : Calls Try.prog 13 #[.agg (NB 0), .agg (NB 1)] w fun e w' => e = .returned (.agg (PB (pN pmin))) ∧ Below w.heap.size w w' := by
  have h := IsN.sub (isN_NB 0) (isN_NB 1) w
  have e : NB (0 - 1) = PB (pN pmin) := by
    unfold NB PB
    rw [show ((0 : Fp) - 1).val = pN pmin by decide +kernel]
  rw [e] at h
  exact h
theorem isN_min : IsN (PB (pN pmin)) (-1) := ⟨b32 (pN pmin), b32_len _, rfl, by rw [le_b32 _ (pN_lt pmin)]; exact Fin.ext (by decide +kernel)⟩
theorem Of_01 (w : World) : Calls Try.prog 22 #[.agg (NB 0), .agg (PB (pN pmin))] w fun e w' => e = .returned (.tuple #[.agg (PB (pN pmin)), .bool true]) ∧ Below w.heap.size w w' :=
  Of_ok (isN_NB 0) isN_min (decide_eq_true pmin.on) w
theorem Of_11 (w : World) : Calls Try.prog 22 #[.agg (NB 1), .agg (NB 1)] w fun e w' => e = .returned (.tuple #[.agg (PB 0), .bool false]) ∧ Below w.heap.size w w' :=
  Of_no (isN_NB 1) (isN_NB 1) (by decide +kernel) w
theorem pmin_dbl : padd pmin pmin = pzero := padd_of (Fin.ext (by decide +kernel)) (Fin.ext (by decide +kernel))
def oddN : Nat := 57896044618658097711785492504343953926634992332820282019728792003956564819969
def greatN : Nat := 57896044618658097711785492504343953926634992332820282019728792003956564819950
theorem odd_no (p : Pt) : pN p ≠ oddN := fun h => by
  have h1 := pN_low p
  have h2 := pN_top p
  rw [h] at h1 h2
  have hy : p.y = 1 := Fin.ext (h1.symm.trans (by decide +kernel))
  have hx : p.x.val % 2 = 1 := of_decide_eq_true (h2.symm.trans (by decide +kernel))
  have h3 := on_sq p.on
  rw [hy] at h3
  have h4 : (cD * (1 * 1) + 1) * (p.x * p.x) = 0 := by rw [Fin.mul_comm, h3]; decide +kernel
  have h5 := Fp.canc (div_ne 1) h4
  rcases Fp.nzd _ _ h5 with h6 | h6 <;> exact odd_ne hx h6
theorem great_no (p : Pt) : pN p ≠ greatN := fun h => by
  have h1 := pN_low p
  rw [h] at h1
  have h2 : p.y.val < 57896044618658097711785492504343953926634992332820282019728792003956564819949 := p.y.isLt
  rw [← h1] at h2
  exact absurd h2 (by decide +kernel)
theorem no_root {c : Fp} (hc : c.val ^ HE % PP = PP - 1) (w : Fp) : w * w ≠ c := fun h => by
  have hw : w ≠ 0 := fun hw => by
    rw [hw] at h
    have h0 : c.val = 0 := by rw [← h]; rfl
    rw [h0] at hc
    exact absurd hc (by
      rw [Nat.zero_pow (by decide)]
      decide +kernel)
  have fw : w.val ^ (PP - 1) % PP = 1 := pri_PP.fermat (Fp.nz hw)
  have hE : 2 * HE = PP - 1 := by decide +kernel
  have e : (w.val * w.val) ^ HE = w.val ^ (PP - 1) := by rw [← hE, Nat.pow_mul, Nat.pow_two]
  have e2 : c.val = w.val * w.val % PP := by rw [← h]; rfl
  rw [e2, ← Nat.pow_mod, e, fw] at hc
  exact absurd hc (by decide +kernel)
def c2 : Fp := ⟨39876158885426588135158554574647104788060420228376654058563882369335329663020, by decide⟩
theorem two_no (p : Pt) : pN p ≠ 2 := fun h => by
  have h1 := pN_low p
  rw [h] at h1
  have hy : p.y = fp 2 := Fin.ext (h1.symm.trans (by decide +kernel))
  have h3 := on_sq p.on
  rw [hy] at h3
  refine no_root (c := c2) (pow_at c2.val HE PP (PP - 1) 255 (by decide +kernel) (by decide +kernel)) (p.x * (cD * (fp 2 * fp 2) + 1)) ?_
  have e2 : (fp 2 * fp 2 - 1) * (cD * (fp 2 * fp 2) + 1) = c2 := Fin.ext (by decide +kernel)
  rw [← e2, ← h3]
  generalize cD * (fp 2 * fp 2) + 1 = z
  generalize p.x = x
  grind
theorem y_known : fp 4 * finv (fp 5) = cB.y := by
  have h0 : fp 5 ≠ 0 := fun h => absurd (congrArg Fin.val h) (by decide +kernel)
  have h1 := finv_mul h0
  have h2 : cB.y * fp 5 = fp 4 := Fin.ext (by decide +kernel)
  rw [← h2]
  generalize fp 5 = z at h1 ⊢
  generalize cB.y = d
  grind
theorem Of_k (n : Nat) (hn : n < 18446744073709551616) (w : World) : Calls Try.prog 14 #[.int .u64 n] w fun e w' => e = .returned (.agg (NB (fp n))) ∧ Below w.heap.size w w' := by
  have h := Of_any n w hn
  have e : (fp n).val = n := Nat.mod_eq_of_lt (Nat.lt_trans hn (by decide))
  have e2 : (byteVals (b32 n)).toArray = NB (fp n) := by unfold NB; rw [e]
  rw [e2] at h
  exact h
theorem Of_4 (w : World) : Calls Try.prog 14 #[.int .u64 4] w fun e w' => e = .returned (.agg (NB (fp 4))) ∧ Below w.heap.size w w' := Of_k 4 (by decide) w
theorem Of_5 (w : World) : Calls Try.prog 14 #[.int .u64 5] w fun e w' => e = .returned (.agg (NB (fp 5))) ∧ Below w.heap.size w w' := Of_k 5 (by decide) w
theorem Odd_B (w : World) : Calls Try.prog 24 #[.agg (NB cB.x)] w fun e w' => e = .returned (.bool false) ∧ Below w.heap.size w w' := by
  have h := IsN.odd (isN_NB cB.x) w
  rw [show decide (cB.x.val % 2 = 1) = false by decide +kernel] at h
  exact h
theorem PB_get (n i : Nat) (hi : i < 32) : (PB n)[i]? = some (.int .u8 ((n / 256 ^ i % 256 : Nat) : Int)) := by
  unfold PB
  rw [byteVals_get _ i (by rw [b32_len]; exact hi), b32_get n i hi, UInt8.toNat_ofNat']
  congr 3
  exact Nat.mod_eq_of_lt (Nat.mod_lt _ (by decide))
theorem PB_set (n m i v : Nat) (hi : i < 32) (hn : n < 115792089237316195423570985008687907853269984665640564039457584007913129639936) (hv : v < 256) (hm : m + 256 ^ i * (n / 256 ^ i % 256) = n + 256 ^ i * v) :
    (PB n).setIfInBounds i (.int .u8 ((v : Nat) : Int)) = PB m := by
  have h1 : (PB n).setIfInBounds i (.int .u8 ((v : Nat) : Int)) = (byteVals ((b32 n).set i (UInt8.ofNat v))).toArray := by
    unfold PB byteVals
    rw [List.setIfInBounds_toArray, List.map_set, UInt8.toNat_ofNat', Nat.mod_eq_of_lt (show v < 2 ^ 8 by omega)]
  have h2 := le_set (b32 n) i (UInt8.ofNat v) (by rw [b32_len]; exact hi)
  rw [le_b32 n hn, b32_get n i hi, UInt8.toNat_ofNat', UInt8.toNat_ofNat', Nat.mod_eq_of_lt (show v < 2 ^ 8 by omega), Nat.mod_eq_of_lt (show n / 256 ^ i % 256 < 2 ^ 8 from Nat.mod_lt _ (by decide))] at h2
  have h3 : le ((b32 n).set i (UInt8.ofNat v)) = m := by omega
  rw [h1]
  unfold PB
  rw [← h3, b32_le _ (by rw [List.length_set]; exact b32_len _)]
/-- 238, and 255 above it. -/
def gN (j : Nat) : Nat := 238 + 256 ^ j - 256
theorem gN_lt (j : Nat) (h : 1 ≤ j) : gN j < 256 ^ j := by
  have : 256 ^ 1 ≤ 256 ^ j := Nat.pow_le_pow_right (by decide) h
  unfold gN; omega
theorem gN_set (j : Nat) (h : 1 ≤ j) (h2 : j < 32) : (PB (gN j)).setIfInBounds j (.int .u8 255) = PB (gN (j + 1)) := by
  have h3 := gN_lt j h
  have h4 : 256 ^ j ≤ 256 ^ 32 := Nat.pow_le_pow_right (by decide) (by omega)
  have h5 : 256 ^ 1 ≤ 256 ^ j := Nat.pow_le_pow_right (by decide) h
  refine PB_set (gN j) (gN (j + 1)) j 255 h2 (by have e : 256 ^ 32 = 115792089237316195423570985008687907853269984665640564039457584007913129639936 := (by decide +kernel); rw [e] at h4; exact Nat.lt_of_lt_of_le h3 h4) (by decide) ?_
  rw [Nat.div_eq_of_lt h3, Nat.zero_mod, Nat.mul_zero]
  unfold gN
  rw [Nat.pow_succ]
  generalize 256 ^ j = z at *
  omega
theorem gN_end : (PB (gN 32)).setIfInBounds 31 (.int .u8 127) = PB greatN := PB_set (gN 32) greatN 31 127 (by decide) (by decide +kernel) (by decide) (by decide +kernel)
theorem odd_set : (PB (pN pzero)).setIfInBounds 31 (.int .u8 128) = PB oddN := PB_set (pN pzero) oddN 31 128 (by decide) (by decide +kernel) (by decide) (by decide +kernel)
theorem run_ixP (o : Oper) (ax : Act) (x y : Operand) (ho : o.op = .indexAddr 24 x y) (g j : Nat) (hj : j < 32) (hx : ax.eval x = .pointer (some ⟨g, 0, none⟩)) (hy : ax.eval y = .int .i64 (j : Int)) (w : World) :
    (execOp ax.eval o).run Try.prog w = .ok (.value (.pointer (some ⟨g, j, none⟩))) w := by
  have hu := Try.underlying24
  have hs : (sizeOf 5).run Try.prog w = .ok 1 w := by kernel_rfl
  unfold execOp
  simp only [ho, hx, hy]
  simp [go_sem, hu, hs, hj]
  intro hc
  exact absurd hc (by omega)
set_option maxRecDepth 100000 in
set_option maxHeartbeats 1000000 in
theorem curveKnown_true (w : World) :
    Calls Try.prog 3 #[] w fun e w' => e = .returned (.bool true) ∧ Below w.heap.size w w' := by
  go_enter Try.func3, Try.ntmps3
  go_upto_region 1 with fail
  have HB := Lib.hid (Below.refl w.heap.size w)
  obtain ⟨N, hN⟩ : ∃ n, w.heap.size = n := ⟨_, rfl⟩
  rw [hN] at HB
  have HN := Lib.hid hN
  clear hN
  refine wp_region_seq 1 ?_
  simp only [List.take_succ_cons, List.take_zero, List.drop_succ_cons, List.drop_zero]
  refine upW_call (by rfl) (by rfl) (.bool true) _ rfl (by simp) (fun p => ?_) ?_
  · go_big_quiet_op
    exact ⟨_, fun q => Calls.ext_of (awake9_any q.x), rfl⟩
  simp only [Act.put, List.setIfInBounds_toArray, List.set]
  refine upW_nil (fun wr1 hbr1 => ?_)
  replace HB := Lib.hid (HB.out.trans (hbr1.mono (show N ≤ _ by have := HB.out.size; have := HN.out; omega)))
  clear hbr1
  go_upto_region 3 with fail
  refine wp_region_seq 1 ?_
  simp only [List.take_succ_cons, List.take_zero, List.drop_succ_cons, List.drop_zero]
  refine upW_call (by rfl) (by rfl) (.agg (PB (pN pzero))) _ rfl (by simp) (fun p => ?_) ?_
  · go_big_quiet_op
    exact ⟨_, fun q => Calls.ext_of (Zero_pt q.x), rfl⟩
  simp only [Act.put, List.setIfInBounds_toArray, List.set]
  refine upW_nil (fun wr2 hbr2 => ?_)
  replace HB := Lib.hid (HB.out.trans (hbr2.mono (show N ≤ _ by have := HB.out.size; have := HN.out; omega)))
  clear hbr2
  refine wpList_new1 rfl 24 rfl (PB 0) zPt rfl _ _ rfl rfl (PB (pN pzero)) 32 (PB_rw (pN pzero)) (PB_rw 0).size (by kernel_rfl) rfl rfl (fun B3 wr3 hB3 hbr3 hCB3 => ?_)
  have HB3 := Lib.hid hCB3
  have hNB3 : N ≤ B3 := by rw [← hB3]; have := HB.out.size; have := HN.out; omega
  clear hB3 hCB3
  simp only [Act.put, List.setIfInBounds_toArray, List.set]
  replace HB := Lib.hid (HB.out.trans (hbr3.mono (show N ≤ _ by have := HB.out.size; have := HN.out; omega)))
  clear hbr3
  go_upto_region 4 with fail
  refine wp_region_seq 3 ?_
  simp only [List.take_succ_cons, List.take_zero, List.drop_succ_cons, List.drop_zero]
  refine upW_late (by rfl) (.agg (NB 0)) (fun w => run_built _ _ _ _ rfl _ (by kernel_rfl) w) ?_
  simp only [Act.put, List.setIfInBounds_toArray, List.set]
  refine upW_call (by rfl) (by rfl) (.agg (NB 1)) _ rfl (by simp) (fun p => ?_) ?_
  · go_big_quiet_op
    exact ⟨_, fun q => Calls.ext_of (Of_one q.x), rfl⟩
  simp only [Act.put, List.setIfInBounds_toArray, List.set]
  refine upW_call (by rfl) (by rfl) (.agg (PB (pN pmin))) _ rfl (by simp) (fun p => ?_) ?_
  · go_big_quiet_op
    exact ⟨_, fun q => Calls.ext_of (Sub01 q.x), rfl⟩
  simp only [Act.put, List.setIfInBounds_toArray, List.set]
  refine upW_nil (fun wr4 hbr4 => ?_)
  replace HB3 := Lib.hid (HB3.out.ext hbr4)
  replace HB := Lib.hid (HB.out.trans (hbr4.mono (show N ≤ _ by have := HB.out.size; have := HN.out; omega)))
  clear hbr4
  refine wpList_new1 rfl 24 rfl (PB 0) zPt rfl _ _ rfl rfl (PB (pN pmin)) 32 (PB_rw (pN pmin)) (PB_rw 0).size (by kernel_rfl) rfl rfl (fun B5 wr5 hB5 hbr5 hCB5 => ?_)
  have HB5 := Lib.hid hCB5
  have hlB5B3 : B3 < B5 := by rw [← hB5]; exact HB3.out.lt
  have hNB5 : N ≤ B5 := by rw [← hB5]; have := HB.out.size; have := HN.out; omega
  clear hB5 hCB5
  simp only [Act.put, List.setIfInBounds_toArray, List.set]
  replace HB3 := Lib.hid (HB3.out.ext hbr5)
  replace HB := Lib.hid (HB.out.trans (hbr5.mono (show N ≤ _ by have := HB.out.size; have := HN.out; omega)))
  clear hbr5
  go_upto_region 5 with fail
  refine wp_region_seq 1 ?_
  simp only [List.take_succ_cons, List.take_zero, List.drop_succ_cons, List.drop_zero]
  refine upW_val (by rfl) (by rfl) (by rfl) (fun K hK => quiet_load_ct _ _ rfl B3 rfl 24 (PB (pN pzero)) 32 (PB_rw (pN pzero)) _ HB3.out Try.underlying24 rfl (by kernel_rfl) (hK _ ?_))
  simp only [Act.put, List.setIfInBounds_toArray, List.set]
  refine upW_nil (fun wr6 hbr6 => ?_)
  replace HB3 := Lib.hid (HB3.out.ext hbr6)
  replace HB5 := Lib.hid (HB5.out.ext hbr6)
  replace HB := Lib.hid (HB.out.trans (hbr6.mono (show N ≤ _ by have := HB.out.size; have := HN.out; omega)))
  clear hbr6
  refine wpList_new1 rfl 24 rfl (PB 0) zPt rfl _ _ rfl rfl (PB (pN pzero)) 32 (PB_rw (pN pzero)) (PB_rw 0).size (by kernel_rfl) rfl rfl (fun B7 wr7 hB7 hbr7 hCB7 => ?_)
  have HB7 := Lib.hid hCB7
  have hlB7B3 : B3 < B7 := by rw [← hB7]; exact HB3.out.lt
  have hlB7B5 : B5 < B7 := by rw [← hB7]; exact HB5.out.lt
  have hNB7 : N ≤ B7 := by rw [← hB7]; have := HB.out.size; have := HN.out; omega
  clear hB7 hCB7
  simp only [Act.put, List.setIfInBounds_toArray, List.set]
  replace HB3 := Lib.hid (HB3.out.ext hbr7)
  replace HB5 := Lib.hid (HB5.out.ext hbr7)
  replace HB := Lib.hid (HB.out.trans (hbr7.mono (show N ≤ _ by have := HB.out.size; have := HN.out; omega)))
  clear hbr7
  go_upto_region 6 with fail
  refine wp_region_seq 1 ?_
  simp only [List.take_succ_cons, List.take_zero, List.drop_succ_cons, List.drop_zero]
  refine upW_late (by rfl) (.pointer (some ⟨B7, 31, none⟩)) (fun _ => by kernel_rfl) ?_
  simp only [Act.put, List.setIfInBounds_toArray, List.set]
  refine upW_nil (fun wr8 hbr8 => ?_)
  replace HB3 := Lib.hid (HB3.out.ext hbr8)
  replace HB5 := Lib.hid (HB5.out.ext hbr8)
  replace HB7 := Lib.hid (HB7.out.ext hbr8)
  replace HB := Lib.hid (HB.out.trans (hbr8.mono (show N ≤ _ by have := HB.out.size; have := HN.out; omega)))
  clear hbr8
  refine wpList_store_byte rfl _ _ rfl B7 31 rfl 128 rfl 24 (PB (pN pzero)) (PB oddN) HB7.out (by rw [(PB_rw (pN pzero)).size]; decide) odd_set rfl (fun wr9 hSwr9 hOwr9 hWwr9 => ?_)
  replace HB7 := Lib.hid hSwr9
  replace HB := Lib.hid (hWwr9 _ _ HB.out (by omega))
  replace HB3 := Lib.hid (HB3.out.other (hOwr9 _ (by omega)))
  replace HB5 := Lib.hid (HB5.out.other (hOwr9 _ (by omega)))
  clear hSwr9 hOwr9 hWwr9
  go_upto_region 7 with fail
  refine wp_region_seq 1 ?_
  simp only [List.take_succ_cons, List.take_zero, List.drop_succ_cons, List.drop_zero]
  refine upW_late (by rfl) (.agg (PB 238)) (fun w => run_built _ _ _ _ rfl _ (by kernel_rfl) w) ?_
  simp only [Act.put, List.setIfInBounds_toArray, List.set]
  refine upW_nil (fun wr10 hbr10 => ?_)
  replace HB3 := Lib.hid (HB3.out.ext hbr10)
  replace HB5 := Lib.hid (HB5.out.ext hbr10)
  replace HB7 := Lib.hid (HB7.out.ext hbr10)
  replace HB := Lib.hid (HB.out.trans (hbr10.mono (show N ≤ _ by have := HB.out.size; have := HN.out; omega)))
  clear hbr10
  refine wpList_new1 rfl 24 rfl (PB 0) zPt rfl _ _ rfl rfl (PB 238) 32 (PB_rw 238) (PB_rw 0).size (by kernel_rfl) rfl rfl (fun B11 wr11 hB11 hbr11 hCB11 => ?_)
  have HB11 := Lib.hid hCB11
  have hlB11B3 : B3 < B11 := by rw [← hB11]; exact HB3.out.lt
  have hlB11B5 : B5 < B11 := by rw [← hB11]; exact HB5.out.lt
  have hlB11B7 : B7 < B11 := by rw [← hB11]; exact HB7.out.lt
  have hNB11 : N ≤ B11 := by rw [← hB11]; have := HB.out.size; have := HN.out; omega
  clear hB11 hCB11
  simp only [Act.put, List.setIfInBounds_toArray, List.set]
  replace HB3 := Lib.hid (HB3.out.ext hbr11)
  replace HB5 := Lib.hid (HB5.out.ext hbr11)
  replace HB7 := Lib.hid (HB7.out.ext hbr11)
  replace HB := Lib.hid (HB.out.trans (hbr11.mono (show N ≤ _ by have := HB.out.size; have := HN.out; omega)))
  clear hbr11
  go_wp2_with fail
  go_loopw [5] (fun iv wr => ∃ (j : Nat), iv = .int .i64 (j : Int) ∧ 1 ≤ j ∧ j ≤ 32 ∧ CT wr B3 24 (PB (pN pzero)) ∧ CT wr B5 24 (PB (pN pmin)) ∧ CT wr B7 24 (PB oddN) ∧ CT wr B11 24 (PB (gN j)) ∧ Below N w wr) (fun i _ => (32 - intOf i).toNat)
  case atStart => exact ⟨1, rfl, by decide, by decide, HB3.out, HB5.out, HB7.out, HB11.out, HB.out⟩
  case round =>
    obtain ⟨j, rfl, hj1, hj2, hh0, hh1, hh2, hh3, hbel⟩ := hrel
    clear HB HB3 HB5 HB7 HB11
    have HB3 := Lib.hid hh0
    have HB5 := Lib.hid hh1
    have HB7 := Lib.hid hh2
    have HB11 := Lib.hid hh3
    have HB := Lib.hid hbel
    clear hbel hh0 hh1 hh2 hh3
    by_cases hlt : j < 32
    · have HJ := Lib.hid hlt
      have HJ1 := Lib.hid hj1
      have hlt' : (j : Int) < 32 := by omega
      go_upto_region 11 with fail
      refine wp_region_seq 2 ?_
      simp only [List.take_succ_cons, List.take_zero, List.drop_succ_cons, List.drop_zero]
      refine upW_val (by rfl) (by rfl) (by rfl) ?_
      intro K hK
      go_big_quiet_op
      refine hK _ ?_
      refine upW_late (by rfl) (.pointer (some ⟨B11, j, none⟩)) (fun w => run_ixP _ _ _ _ rfl B11 j HJ.out rfl rfl w) ?_
      simp only [Act.put, List.setIfInBounds_toArray, List.set]
      refine upW_nil (fun wq hbq => ?_)
      replace HB3 := Lib.hid (HB3.out.ext hbq)
      replace HB5 := Lib.hid (HB5.out.ext hbq)
      replace HB7 := Lib.hid (HB7.out.ext hbq)
      replace HB11 := Lib.hid (HB11.out.ext hbq)
      replace HB := Lib.hid (HB.out.trans (hbq.mono (show N ≤ _ by have := HB.out.size; have := HN.out; omega)))
      clear hbq
      refine wpList_store_byte rfl _ _ rfl B11 j rfl 255 rfl 24 (PB (gN j)) (PB (gN (j + 1))) HB11.out (by rw [(PB_rw (gN j)).size]; exact HJ.out) (gN_set j HJ1.out HJ.out) rfl (fun wq2 hSq hOq hWq => ?_)
      replace HB11 := Lib.hid hSq
      replace HB := Lib.hid (hWq _ _ HB.out (by omega))
      replace HB3 := Lib.hid (HB3.out.other (hOq _ (by omega)))
      replace HB5 := Lib.hid (HB5.out.other (hOq _ (by omega)))
      replace HB7 := Lib.hid (HB7.out.other (hOq _ (by omega)))
      clear hSq hOq hWq
      go_wp2_with fail
      go_roundw
      case rel => exact ⟨j + 1, (by first | rfl | exact congrArg (Value.int .i64) (by omega) | simp), by omega, by omega, HB3.out, HB5.out, HB7.out, HB11.out, HB.out⟩
      case measure => simp [intOf]; omega
    · obtain rfl : j = 32 := by omega
      clear hlt hj1 hj2
      obtain ⟨q1, hq1⟩ : ∃ zp : Pt, zp = padd pmin pmin := ⟨_, rfl⟩
      have HE1 := Lib.hid hq1
      clear hq1
      have HQ2 := Lib.hid (fun w => Add_ok pmin pmin w)
      rw [← HE1.out] at HQ2
      have HQ3 := Lib.hid (fun w => Add_ny 2 (by decide) two_no pzero w)
      have HQ4 := Lib.hid (fun w => Add_yn pzero oddN (by decide) odd_no w)
      have HQ5 := Lib.hid (fun w => Neg_no 2 (by decide) two_no w)
      have HQ6 := Lib.hid (fun w => Times_no 3 (by decide) greatN (by decide) great_no w)
      have HQ7 := Lib.hid (fun w => XY_ok cB w)
      obtain ⟨c8, hc8⟩ : ∃ zq : Fp, zq = finv (fp 5) := ⟨_, rfl⟩
      have HE8 := Lib.hid hc8
      clear hc8
      have HQ9 := Lib.hid (fun w => IsN.inv (isN_NB (fp 5)) w)
      rw [← HE8.out] at HQ9
      obtain ⟨c10, hc10⟩ : ∃ zq : Fp, zq = (fp 4) * c8 := ⟨_, rfl⟩
      have HE10 := Lib.hid hc10
      clear hc10
      have HQ11 := Lib.hid (fun w => IsN.mul (isN_NB (fp 4)) (isN_NB c8) w)
      rw [← HE10.out] at HQ11
      have HQ12 := Lib.hid (fun w => Good_ok pzero w)
      have HQ13 := Lib.hid (fun w => Good_ok pmin w)
      have HQ14 := Lib.hid (fun w => Good_no oddN (by decide) odd_no w)
      have HQ15 := Lib.hid (fun w => Good_no greatN (by decide) great_no w)
      have HQ16 := Lib.hid (fun w => Good_no 2 (by decide) two_no w)
      go_upto_region 12 with fail
      refine wp_region_seq 1 ?_
      simp only [List.take_succ_cons, List.take_zero, List.drop_succ_cons, List.drop_zero]
      refine upW_late (by rfl) (.pointer (some ⟨B11, 31, none⟩)) (fun _ => by kernel_rfl) ?_
      simp only [Act.put, List.setIfInBounds_toArray, List.set]
      refine upW_nil (fun wr12 hbr12 => ?_)
      replace HB3 := Lib.hid (HB3.out.ext hbr12)
      replace HB5 := Lib.hid (HB5.out.ext hbr12)
      replace HB7 := Lib.hid (HB7.out.ext hbr12)
      replace HB11 := Lib.hid (HB11.out.ext hbr12)
      replace HB := Lib.hid (HB.out.trans (hbr12.mono (show N ≤ _ by have := HB.out.size; have := HN.out; omega)))
      clear hbr12
      refine wpList_store_byte rfl _ _ rfl B11 31 rfl 127 rfl 24 (PB (gN 32)) (PB greatN) HB11.out (by rw [(PB_rw (gN 32)).size]; decide) gN_end rfl (fun wr13 hSwr13 hOwr13 hWwr13 => ?_)
      replace HB11 := Lib.hid hSwr13
      replace HB := Lib.hid (hWwr13 _ _ HB.out (by omega))
      replace HB3 := Lib.hid (HB3.out.other (hOwr13 _ (by omega)))
      replace HB5 := Lib.hid (HB5.out.other (hOwr13 _ (by omega)))
      replace HB7 := Lib.hid (HB7.out.other (hOwr13 _ (by omega)))
      clear hSwr13 hOwr13 hWwr13
      go_upto_region 13 with fail
      refine wp_region_seq 1 ?_
      simp only [List.take_succ_cons, List.take_zero, List.drop_succ_cons, List.drop_zero]
      refine upW_late (by rfl) (.agg (PB 2)) (fun w => run_built _ _ _ _ rfl _ (by kernel_rfl) w) ?_
      simp only [Act.put, List.setIfInBounds_toArray, List.set]
      refine upW_nil (fun wr14 hbr14 => ?_)
      replace HB3 := Lib.hid (HB3.out.ext hbr14)
      replace HB5 := Lib.hid (HB5.out.ext hbr14)
      replace HB7 := Lib.hid (HB7.out.ext hbr14)
      replace HB11 := Lib.hid (HB11.out.ext hbr14)
      replace HB := Lib.hid (HB.out.trans (hbr14.mono (show N ≤ _ by have := HB.out.size; have := HN.out; omega)))
      clear hbr14
      refine wpList_new1 rfl 24 rfl (PB 0) zPt rfl _ _ rfl rfl (PB 2) 32 (PB_rw 2) (PB_rw 0).size (by kernel_rfl) rfl rfl (fun B15 wr15 hB15 hbr15 hCB15 => ?_)
      have HB15 := Lib.hid hCB15
      have hlB15B3 : B3 < B15 := by rw [← hB15]; exact HB3.out.lt
      have hlB15B5 : B5 < B15 := by rw [← hB15]; exact HB5.out.lt
      have hlB15B7 : B7 < B15 := by rw [← hB15]; exact HB7.out.lt
      have hlB15B11 : B11 < B15 := by rw [← hB15]; exact HB11.out.lt
      have hNB15 : N ≤ B15 := by rw [← hB15]; have := HB.out.size; have := HN.out; omega
      clear hB15 hCB15
      simp only [Act.put, List.setIfInBounds_toArray, List.set]
      replace HB3 := Lib.hid (HB3.out.ext hbr15)
      replace HB5 := Lib.hid (HB5.out.ext hbr15)
      replace HB7 := Lib.hid (HB7.out.ext hbr15)
      replace HB11 := Lib.hid (HB11.out.ext hbr15)
      replace HB := Lib.hid (HB.out.trans (hbr15.mono (show N ≤ _ by have := HB.out.size; have := HN.out; omega)))
      clear hbr15
      go_upto_region 14 with fail
      refine wp_region_seq 6 ?_
      simp only [List.take_succ_cons, List.take_zero, List.drop_succ_cons, List.drop_zero]
      refine upW_val (by rfl) (by rfl) (by rfl) (fun K hK => quiet_load_ct _ _ rfl B5 rfl 24 (PB (pN pmin)) 32 (PB_rw (pN pmin)) _ HB5.out Try.underlying24 rfl (by kernel_rfl) (hK _ ?_))
      simp only [Act.put, List.setIfInBounds_toArray, List.set]
      refine upW_val (by rfl) (by rfl) (by rfl) (fun K hK => quiet_load_ct _ _ rfl B5 rfl 24 (PB (pN pmin)) 32 (PB_rw (pN pmin)) _ HB5.out Try.underlying24 rfl (by kernel_rfl) (hK _ ?_))
      simp only [Act.put, List.setIfInBounds_toArray, List.set]
      refine upW_call (by rfl) (by rfl) (.tuple #[.agg (PB (pN q1)), .bool true]) _ rfl (by simp) (fun p => ?_) ?_
      · go_big_quiet_op
        exact ⟨_, fun q => Calls.ext_of (HQ2.out q.x), rfl⟩
      simp only [Act.put, List.setIfInBounds_toArray, List.set]
      refine upW_val (by rfl) (by rfl) (by rfl) ?_
      intro K hK
      go_big_quiet_op
      refine hK _ ?_
      refine upW_late (by rfl) (.agg (PB (pN q1))) (fun _ => rfl) ?_
      simp only [Act.put, List.setIfInBounds_toArray, List.set]
      refine upW_late (by rfl) (.bool true) (fun _ => rfl) ?_
      simp only [Act.put, List.setIfInBounds_toArray, List.set]
      refine upW_nil (fun wr16 hbr16 => ?_)
      replace HB3 := Lib.hid (HB3.out.ext hbr16)
      replace HB5 := Lib.hid (HB5.out.ext hbr16)
      replace HB7 := Lib.hid (HB7.out.ext hbr16)
      replace HB11 := Lib.hid (HB11.out.ext hbr16)
      replace HB15 := Lib.hid (HB15.out.ext hbr16)
      replace HB := Lib.hid (HB.out.trans (hbr16.mono (show N ≤ _ by have := HB.out.size; have := HN.out; omega)))
      clear hbr16
      refine wpList_new1 rfl 24 rfl (PB 0) zPt rfl _ _ rfl rfl (PB (pN q1)) 32 (PB_rw (pN q1)) (PB_rw 0).size (by kernel_rfl) rfl rfl (fun B17 wr17 hB17 hbr17 hCB17 => ?_)
      have HB17 := Lib.hid hCB17
      have hlB17B3 : B3 < B17 := by rw [← hB17]; exact HB3.out.lt
      have hlB17B5 : B5 < B17 := by rw [← hB17]; exact HB5.out.lt
      have hlB17B7 : B7 < B17 := by rw [← hB17]; exact HB7.out.lt
      have hlB17B11 : B11 < B17 := by rw [← hB17]; exact HB11.out.lt
      have hlB17B15 : B15 < B17 := by rw [← hB17]; exact HB15.out.lt
      have hNB17 : N ≤ B17 := by rw [← hB17]; have := HB.out.size; have := HN.out; omega
      clear hB17 hCB17
      simp only [Act.put, List.setIfInBounds_toArray, List.set]
      replace HB3 := Lib.hid (HB3.out.ext hbr17)
      replace HB5 := Lib.hid (HB5.out.ext hbr17)
      replace HB7 := Lib.hid (HB7.out.ext hbr17)
      replace HB11 := Lib.hid (HB11.out.ext hbr17)
      replace HB15 := Lib.hid (HB15.out.ext hbr17)
      replace HB := Lib.hid (HB.out.trans (hbr17.mono (show N ≤ _ by have := HB.out.size; have := HN.out; omega)))
      clear hbr17
      go_upto_region 15 with fail
      refine wp_region_seq 6 ?_
      simp only [List.take_succ_cons, List.take_zero, List.drop_succ_cons, List.drop_zero]
      refine upW_val (by rfl) (by rfl) (by rfl) (fun K hK => quiet_load_ct _ _ rfl B15 rfl 24 (PB 2) 32 (PB_rw 2) _ HB15.out Try.underlying24 rfl (by kernel_rfl) (hK _ ?_))
      simp only [Act.put, List.setIfInBounds_toArray, List.set]
      refine upW_val (by rfl) (by rfl) (by rfl) (fun K hK => quiet_load_ct _ _ rfl B3 rfl 24 (PB (pN pzero)) 32 (PB_rw (pN pzero)) _ HB3.out Try.underlying24 rfl (by kernel_rfl) (hK _ ?_))
      simp only [Act.put, List.setIfInBounds_toArray, List.set]
      refine upW_call (by rfl) (by rfl) (.tuple #[.agg (PB 0), .bool false]) _ rfl (by simp) (fun p => ?_) ?_
      · go_big_quiet_op
        exact ⟨_, fun q => Calls.ext_of (HQ3.out q.x), rfl⟩
      simp only [Act.put, List.setIfInBounds_toArray, List.set]
      refine upW_val (by rfl) (by rfl) (by rfl) ?_
      intro K hK
      go_big_quiet_op
      refine hK _ ?_
      refine upW_late (by rfl) (.agg (PB 0)) (fun _ => rfl) ?_
      simp only [Act.put, List.setIfInBounds_toArray, List.set]
      refine upW_late (by rfl) (.bool false) (fun _ => rfl) ?_
      simp only [Act.put, List.setIfInBounds_toArray, List.set]
      refine upW_nil (fun wr18 hbr18 => ?_)
      replace HB3 := Lib.hid (HB3.out.ext hbr18)
      replace HB5 := Lib.hid (HB5.out.ext hbr18)
      replace HB7 := Lib.hid (HB7.out.ext hbr18)
      replace HB11 := Lib.hid (HB11.out.ext hbr18)
      replace HB15 := Lib.hid (HB15.out.ext hbr18)
      replace HB17 := Lib.hid (HB17.out.ext hbr18)
      replace HB := Lib.hid (HB.out.trans (hbr18.mono (show N ≤ _ by have := HB.out.size; have := HN.out; omega)))
      clear hbr18
      refine wpList_new1 rfl 24 rfl (PB 0) zPt rfl _ _ rfl rfl (PB 0) 32 (PB_rw 0) (PB_rw 0).size (by kernel_rfl) rfl rfl (fun B19 wr19 hB19 hbr19 hCB19 => ?_)
      have HB19 := Lib.hid hCB19
      have hlB19B3 : B3 < B19 := by rw [← hB19]; exact HB3.out.lt
      have hlB19B5 : B5 < B19 := by rw [← hB19]; exact HB5.out.lt
      have hlB19B7 : B7 < B19 := by rw [← hB19]; exact HB7.out.lt
      have hlB19B11 : B11 < B19 := by rw [← hB19]; exact HB11.out.lt
      have hlB19B15 : B15 < B19 := by rw [← hB19]; exact HB15.out.lt
      have hlB19B17 : B17 < B19 := by rw [← hB19]; exact HB17.out.lt
      have hNB19 : N ≤ B19 := by rw [← hB19]; have := HB.out.size; have := HN.out; omega
      clear hB19 hCB19
      simp only [Act.put, List.setIfInBounds_toArray, List.set]
      replace HB3 := Lib.hid (HB3.out.ext hbr19)
      replace HB5 := Lib.hid (HB5.out.ext hbr19)
      replace HB7 := Lib.hid (HB7.out.ext hbr19)
      replace HB11 := Lib.hid (HB11.out.ext hbr19)
      replace HB15 := Lib.hid (HB15.out.ext hbr19)
      replace HB17 := Lib.hid (HB17.out.ext hbr19)
      replace HB := Lib.hid (HB.out.trans (hbr19.mono (show N ≤ _ by have := HB.out.size; have := HN.out; omega)))
      clear hbr19
      go_upto_region 16 with fail
      refine wp_region_seq 6 ?_
      simp only [List.take_succ_cons, List.take_zero, List.drop_succ_cons, List.drop_zero]
      refine upW_val (by rfl) (by rfl) (by rfl) (fun K hK => quiet_load_ct _ _ rfl B3 rfl 24 (PB (pN pzero)) 32 (PB_rw (pN pzero)) _ HB3.out Try.underlying24 rfl (by kernel_rfl) (hK _ ?_))
      simp only [Act.put, List.setIfInBounds_toArray, List.set]
      refine upW_val (by rfl) (by rfl) (by rfl) (fun K hK => quiet_load_ct _ _ rfl B7 rfl 24 (PB oddN) 32 (PB_rw oddN) _ HB7.out Try.underlying24 rfl (by kernel_rfl) (hK _ ?_))
      simp only [Act.put, List.setIfInBounds_toArray, List.set]
      refine upW_call (by rfl) (by rfl) (.tuple #[.agg (PB 0), .bool false]) _ rfl (by simp) (fun p => ?_) ?_
      · go_big_quiet_op
        exact ⟨_, fun q => Calls.ext_of (HQ4.out q.x), rfl⟩
      simp only [Act.put, List.setIfInBounds_toArray, List.set]
      refine upW_val (by rfl) (by rfl) (by rfl) ?_
      intro K hK
      go_big_quiet_op
      refine hK _ ?_
      refine upW_late (by rfl) (.agg (PB 0)) (fun _ => rfl) ?_
      simp only [Act.put, List.setIfInBounds_toArray, List.set]
      refine upW_late (by rfl) (.bool false) (fun _ => rfl) ?_
      simp only [Act.put, List.setIfInBounds_toArray, List.set]
      refine upW_nil (fun wr20 hbr20 => ?_)
      replace HB3 := Lib.hid (HB3.out.ext hbr20)
      replace HB5 := Lib.hid (HB5.out.ext hbr20)
      replace HB7 := Lib.hid (HB7.out.ext hbr20)
      replace HB11 := Lib.hid (HB11.out.ext hbr20)
      replace HB15 := Lib.hid (HB15.out.ext hbr20)
      replace HB17 := Lib.hid (HB17.out.ext hbr20)
      replace HB19 := Lib.hid (HB19.out.ext hbr20)
      replace HB := Lib.hid (HB.out.trans (hbr20.mono (show N ≤ _ by have := HB.out.size; have := HN.out; omega)))
      clear hbr20
      refine wpList_new1 rfl 24 rfl (PB 0) zPt rfl _ _ rfl rfl (PB 0) 32 (PB_rw 0) (PB_rw 0).size (by kernel_rfl) rfl rfl (fun B21 wr21 hB21 hbr21 hCB21 => ?_)
      have HB21 := Lib.hid hCB21
      have hlB21B3 : B3 < B21 := by rw [← hB21]; exact HB3.out.lt
      have hlB21B5 : B5 < B21 := by rw [← hB21]; exact HB5.out.lt
      have hlB21B7 : B7 < B21 := by rw [← hB21]; exact HB7.out.lt
      have hlB21B11 : B11 < B21 := by rw [← hB21]; exact HB11.out.lt
      have hlB21B15 : B15 < B21 := by rw [← hB21]; exact HB15.out.lt
      have hlB21B17 : B17 < B21 := by rw [← hB21]; exact HB17.out.lt
      have hlB21B19 : B19 < B21 := by rw [← hB21]; exact HB19.out.lt
      have hNB21 : N ≤ B21 := by rw [← hB21]; have := HB.out.size; have := HN.out; omega
      clear hB21 hCB21
      simp only [Act.put, List.setIfInBounds_toArray, List.set]
      replace HB3 := Lib.hid (HB3.out.ext hbr21)
      replace HB5 := Lib.hid (HB5.out.ext hbr21)
      replace HB7 := Lib.hid (HB7.out.ext hbr21)
      replace HB11 := Lib.hid (HB11.out.ext hbr21)
      replace HB15 := Lib.hid (HB15.out.ext hbr21)
      replace HB17 := Lib.hid (HB17.out.ext hbr21)
      replace HB19 := Lib.hid (HB19.out.ext hbr21)
      replace HB := Lib.hid (HB.out.trans (hbr21.mono (show N ≤ _ by have := HB.out.size; have := HN.out; omega)))
      clear hbr21
      go_upto_region 17 with fail
      refine wp_region_seq 5 ?_
      simp only [List.take_succ_cons, List.take_zero, List.drop_succ_cons, List.drop_zero]
      refine upW_val (by rfl) (by rfl) (by rfl) (fun K hK => quiet_load_ct _ _ rfl B15 rfl 24 (PB 2) 32 (PB_rw 2) _ HB15.out Try.underlying24 rfl (by kernel_rfl) (hK _ ?_))
      simp only [Act.put, List.setIfInBounds_toArray, List.set]
      refine upW_call (by rfl) (by rfl) (.tuple #[.agg (PB 0), .bool false]) _ rfl (by simp) (fun p => ?_) ?_
      · go_big_quiet_op
        exact ⟨_, fun q => Calls.ext_of (HQ5.out q.x), rfl⟩
      simp only [Act.put, List.setIfInBounds_toArray, List.set]
      refine upW_val (by rfl) (by rfl) (by rfl) ?_
      intro K hK
      go_big_quiet_op
      refine hK _ ?_
      refine upW_late (by rfl) (.agg (PB 0)) (fun _ => rfl) ?_
      simp only [Act.put, List.setIfInBounds_toArray, List.set]
      refine upW_late (by rfl) (.bool false) (fun _ => rfl) ?_
      simp only [Act.put, List.setIfInBounds_toArray, List.set]
      refine upW_nil (fun wr22 hbr22 => ?_)
      replace HB3 := Lib.hid (HB3.out.ext hbr22)
      replace HB5 := Lib.hid (HB5.out.ext hbr22)
      replace HB7 := Lib.hid (HB7.out.ext hbr22)
      replace HB11 := Lib.hid (HB11.out.ext hbr22)
      replace HB15 := Lib.hid (HB15.out.ext hbr22)
      replace HB17 := Lib.hid (HB17.out.ext hbr22)
      replace HB19 := Lib.hid (HB19.out.ext hbr22)
      replace HB21 := Lib.hid (HB21.out.ext hbr22)
      replace HB := Lib.hid (HB.out.trans (hbr22.mono (show N ≤ _ by have := HB.out.size; have := HN.out; omega)))
      clear hbr22
      refine wpList_new1 rfl 24 rfl (PB 0) zPt rfl _ _ rfl rfl (PB 0) 32 (PB_rw 0) (PB_rw 0).size (by kernel_rfl) rfl rfl (fun B23 wr23 hB23 hbr23 hCB23 => ?_)
      have HB23 := Lib.hid hCB23
      have hlB23B3 : B3 < B23 := by rw [← hB23]; exact HB3.out.lt
      have hlB23B5 : B5 < B23 := by rw [← hB23]; exact HB5.out.lt
      have hlB23B7 : B7 < B23 := by rw [← hB23]; exact HB7.out.lt
      have hlB23B11 : B11 < B23 := by rw [← hB23]; exact HB11.out.lt
      have hlB23B15 : B15 < B23 := by rw [← hB23]; exact HB15.out.lt
      have hlB23B17 : B17 < B23 := by rw [← hB23]; exact HB17.out.lt
      have hlB23B19 : B19 < B23 := by rw [← hB23]; exact HB19.out.lt
      have hlB23B21 : B21 < B23 := by rw [← hB23]; exact HB21.out.lt
      have hNB23 : N ≤ B23 := by rw [← hB23]; have := HB.out.size; have := HN.out; omega
      clear hB23 hCB23
      simp only [Act.put, List.setIfInBounds_toArray, List.set]
      replace HB3 := Lib.hid (HB3.out.ext hbr23)
      replace HB5 := Lib.hid (HB5.out.ext hbr23)
      replace HB7 := Lib.hid (HB7.out.ext hbr23)
      replace HB11 := Lib.hid (HB11.out.ext hbr23)
      replace HB15 := Lib.hid (HB15.out.ext hbr23)
      replace HB17 := Lib.hid (HB17.out.ext hbr23)
      replace HB19 := Lib.hid (HB19.out.ext hbr23)
      replace HB21 := Lib.hid (HB21.out.ext hbr23)
      replace HB := Lib.hid (HB.out.trans (hbr23.mono (show N ≤ _ by have := HB.out.size; have := HN.out; omega)))
      clear hbr23
      go_upto_region 18 with fail
      refine wp_region_seq 6 ?_
      simp only [List.take_succ_cons, List.take_zero, List.drop_succ_cons, List.drop_zero]
      refine upW_late (by rfl) (.agg (PB 3)) (fun w => run_built _ _ _ _ rfl _ (by kernel_rfl) w) ?_
      simp only [Act.put, List.setIfInBounds_toArray, List.set]
      refine upW_val (by rfl) (by rfl) (by rfl) (fun K hK => quiet_load_ct _ _ rfl B11 rfl 24 (PB greatN) 32 (PB_rw greatN) _ HB11.out Try.underlying24 rfl (by kernel_rfl) (hK _ ?_))
      simp only [Act.put, List.setIfInBounds_toArray, List.set]
      refine upW_call (by rfl) (by rfl) (.tuple #[.agg (PB 0), .bool false]) _ rfl (by simp) (fun p => ?_) ?_
      · go_big_quiet_op
        exact ⟨_, fun q => Calls.ext_of (HQ6.out q.x), rfl⟩
      simp only [Act.put, List.setIfInBounds_toArray, List.set]
      refine upW_val (by rfl) (by rfl) (by rfl) ?_
      intro K hK
      go_big_quiet_op
      refine hK _ ?_
      refine upW_late (by rfl) (.agg (PB 0)) (fun _ => rfl) ?_
      simp only [Act.put, List.setIfInBounds_toArray, List.set]
      refine upW_late (by rfl) (.bool false) (fun _ => rfl) ?_
      simp only [Act.put, List.setIfInBounds_toArray, List.set]
      refine upW_nil (fun wr24 hbr24 => ?_)
      replace HB3 := Lib.hid (HB3.out.ext hbr24)
      replace HB5 := Lib.hid (HB5.out.ext hbr24)
      replace HB7 := Lib.hid (HB7.out.ext hbr24)
      replace HB11 := Lib.hid (HB11.out.ext hbr24)
      replace HB15 := Lib.hid (HB15.out.ext hbr24)
      replace HB17 := Lib.hid (HB17.out.ext hbr24)
      replace HB19 := Lib.hid (HB19.out.ext hbr24)
      replace HB21 := Lib.hid (HB21.out.ext hbr24)
      replace HB23 := Lib.hid (HB23.out.ext hbr24)
      replace HB := Lib.hid (HB.out.trans (hbr24.mono (show N ≤ _ by have := HB.out.size; have := HN.out; omega)))
      clear hbr24
      refine wpList_new1 rfl 24 rfl (PB 0) zPt rfl _ _ rfl rfl (PB 0) 32 (PB_rw 0) (PB_rw 0).size (by kernel_rfl) rfl rfl (fun B25 wr25 hB25 hbr25 hCB25 => ?_)
      have HB25 := Lib.hid hCB25
      have hlB25B3 : B3 < B25 := by rw [← hB25]; exact HB3.out.lt
      have hlB25B5 : B5 < B25 := by rw [← hB25]; exact HB5.out.lt
      have hlB25B7 : B7 < B25 := by rw [← hB25]; exact HB7.out.lt
      have hlB25B11 : B11 < B25 := by rw [← hB25]; exact HB11.out.lt
      have hlB25B15 : B15 < B25 := by rw [← hB25]; exact HB15.out.lt
      have hlB25B17 : B17 < B25 := by rw [← hB25]; exact HB17.out.lt
      have hlB25B19 : B19 < B25 := by rw [← hB25]; exact HB19.out.lt
      have hlB25B21 : B21 < B25 := by rw [← hB25]; exact HB21.out.lt
      have hlB25B23 : B23 < B25 := by rw [← hB25]; exact HB23.out.lt
      have hNB25 : N ≤ B25 := by rw [← hB25]; have := HB.out.size; have := HN.out; omega
      clear hB25 hCB25
      simp only [Act.put, List.setIfInBounds_toArray, List.set]
      replace HB3 := Lib.hid (HB3.out.ext hbr25)
      replace HB5 := Lib.hid (HB5.out.ext hbr25)
      replace HB7 := Lib.hid (HB7.out.ext hbr25)
      replace HB11 := Lib.hid (HB11.out.ext hbr25)
      replace HB15 := Lib.hid (HB15.out.ext hbr25)
      replace HB17 := Lib.hid (HB17.out.ext hbr25)
      replace HB19 := Lib.hid (HB19.out.ext hbr25)
      replace HB21 := Lib.hid (HB21.out.ext hbr25)
      replace HB23 := Lib.hid (HB23.out.ext hbr25)
      replace HB := Lib.hid (HB.out.trans (hbr25.mono (show N ≤ _ by have := HB.out.size; have := HN.out; omega)))
      clear hbr25
      go_upto_region 19 with fail
      refine wp_region_seq 6 ?_
      simp only [List.take_succ_cons, List.take_zero, List.drop_succ_cons, List.drop_zero]
      refine upW_call (by rfl) (by rfl) (.agg (PB (pN cB))) _ rfl (by simp) (fun p => ?_) ?_
      · go_big_quiet_op
        exact ⟨_, fun q => Calls.ext_of (Base_pt q.x), rfl⟩
      simp only [Act.put, List.setIfInBounds_toArray, List.set]
      refine upW_call (by rfl) (by rfl) (.tuple #[.agg (NB cB.x), .agg (NB cB.y), .bool true]) _ rfl (by simp) (fun p => ?_) ?_
      · go_big_quiet_op
        exact ⟨_, fun q => Calls.ext_of (HQ7.out q.x), rfl⟩
      simp only [Act.put, List.setIfInBounds_toArray, List.set]
      refine upW_val (by rfl) (by rfl) (by rfl) ?_
      intro K hK
      go_big_quiet_op
      refine hK _ ?_
      refine upW_late (by rfl) (.agg (NB cB.x)) (fun _ => rfl) ?_
      simp only [Act.put, List.setIfInBounds_toArray, List.set]
      refine upW_late (by rfl) (.agg (NB cB.y)) (fun _ => rfl) ?_
      simp only [Act.put, List.setIfInBounds_toArray, List.set]
      refine upW_late (by rfl) (.bool true) (fun _ => rfl) ?_
      simp only [Act.put, List.setIfInBounds_toArray, List.set]
      refine upW_nil (fun wr26 hbr26 => ?_)
      replace HB3 := Lib.hid (HB3.out.ext hbr26)
      replace HB5 := Lib.hid (HB5.out.ext hbr26)
      replace HB7 := Lib.hid (HB7.out.ext hbr26)
      replace HB11 := Lib.hid (HB11.out.ext hbr26)
      replace HB15 := Lib.hid (HB15.out.ext hbr26)
      replace HB17 := Lib.hid (HB17.out.ext hbr26)
      replace HB19 := Lib.hid (HB19.out.ext hbr26)
      replace HB21 := Lib.hid (HB21.out.ext hbr26)
      replace HB23 := Lib.hid (HB23.out.ext hbr26)
      replace HB25 := Lib.hid (HB25.out.ext hbr26)
      replace HB := Lib.hid (HB.out.trans (hbr26.mono (show N ≤ _ by have := HB.out.size; have := HN.out; omega)))
      clear hbr26
      refine wpList_new2 rfl rfl 26 rfl rfl (NB 0) zNu rfl rfl _ _ _ _ rfl rfl (NB cB.x) (NB cB.y) 32 (NB_rw cB.x) (NB_rw cB.y) (NB_rw 0).size (by kernel_rfl) rfl rfl rfl rfl rfl rfl (fun B27a B27b wr27 hB27a hB27b hbr27 hCB27a hCB27b => ?_)
      have HB27a := Lib.hid hCB27a
      have HB27b := Lib.hid hCB27b
      have hlB27aB3 : B3 < B27a := by rw [← hB27a]; exact HB3.out.lt
      have hlB27bB3 : B3 < B27b := by omega
      have hlB27aB5 : B5 < B27a := by rw [← hB27a]; exact HB5.out.lt
      have hlB27bB5 : B5 < B27b := by omega
      have hlB27aB7 : B7 < B27a := by rw [← hB27a]; exact HB7.out.lt
      have hlB27bB7 : B7 < B27b := by omega
      have hlB27aB11 : B11 < B27a := by rw [← hB27a]; exact HB11.out.lt
      have hlB27bB11 : B11 < B27b := by omega
      have hlB27aB15 : B15 < B27a := by rw [← hB27a]; exact HB15.out.lt
      have hlB27bB15 : B15 < B27b := by omega
      have hlB27aB17 : B17 < B27a := by rw [← hB27a]; exact HB17.out.lt
      have hlB27bB17 : B17 < B27b := by omega
      have hlB27aB19 : B19 < B27a := by rw [← hB27a]; exact HB19.out.lt
      have hlB27bB19 : B19 < B27b := by omega
      have hlB27aB21 : B21 < B27a := by rw [← hB27a]; exact HB21.out.lt
      have hlB27bB21 : B21 < B27b := by omega
      have hlB27aB23 : B23 < B27a := by rw [← hB27a]; exact HB23.out.lt
      have hlB27bB23 : B23 < B27b := by omega
      have hlB27aB25 : B25 < B27a := by rw [← hB27a]; exact HB25.out.lt
      have hlB27bB25 : B25 < B27b := by omega
      have hNB27a : N ≤ B27a := by rw [← hB27a]; have := HB.out.size; have := HN.out; omega
      have hNB27b : N ≤ B27b := by omega
      clear hB27a hCB27a hCB27b
      simp only [Act.put, List.setIfInBounds_toArray, List.set]
      replace HB3 := Lib.hid (HB3.out.ext hbr27)
      replace HB5 := Lib.hid (HB5.out.ext hbr27)
      replace HB7 := Lib.hid (HB7.out.ext hbr27)
      replace HB11 := Lib.hid (HB11.out.ext hbr27)
      replace HB15 := Lib.hid (HB15.out.ext hbr27)
      replace HB17 := Lib.hid (HB17.out.ext hbr27)
      replace HB19 := Lib.hid (HB19.out.ext hbr27)
      replace HB21 := Lib.hid (HB21.out.ext hbr27)
      replace HB23 := Lib.hid (HB23.out.ext hbr27)
      replace HB25 := Lib.hid (HB25.out.ext hbr27)
      replace HB := Lib.hid (HB.out.trans (hbr27.mono (show N ≤ _ by have := HB.out.size; have := HN.out; omega)))
      clear hbr27
      go_upto_region 20 with fail
      refine wp_region_seq 4 ?_
      simp only [List.take_succ_cons, List.take_zero, List.drop_succ_cons, List.drop_zero]
      refine upW_call (by rfl) (by rfl) (.agg (NB (fp 4))) _ rfl (by simp) (fun p => ?_) ?_
      · go_big_quiet_op
        exact ⟨_, fun q => Calls.ext_of (Of_4 q.x), rfl⟩
      simp only [Act.put, List.setIfInBounds_toArray, List.set]
      refine upW_call (by rfl) (by rfl) (.agg (NB (fp 5))) _ rfl (by simp) (fun p => ?_) ?_
      · go_big_quiet_op
        exact ⟨_, fun q => Calls.ext_of (Of_5 q.x), rfl⟩
      simp only [Act.put, List.setIfInBounds_toArray, List.set]
      refine upW_call (by rfl) (by rfl) (.agg (NB c8)) _ rfl (by simp) (fun p => ?_) ?_
      · go_big_quiet_op
        exact ⟨_, fun q => Calls.ext_of (HQ9.out q.x), rfl⟩
      simp only [Act.put, List.setIfInBounds_toArray, List.set]
      refine upW_call (by rfl) (by rfl) (.agg (NB c10)) _ rfl (by simp) (fun p => ?_) ?_
      · go_big_quiet_op
        exact ⟨_, fun q => Calls.ext_of (HQ11.out q.x), rfl⟩
      simp only [Act.put, List.setIfInBounds_toArray, List.set]
      refine upW_nil (fun wr28 hbr28 => ?_)
      replace HB3 := Lib.hid (HB3.out.ext hbr28)
      replace HB5 := Lib.hid (HB5.out.ext hbr28)
      replace HB7 := Lib.hid (HB7.out.ext hbr28)
      replace HB11 := Lib.hid (HB11.out.ext hbr28)
      replace HB15 := Lib.hid (HB15.out.ext hbr28)
      replace HB17 := Lib.hid (HB17.out.ext hbr28)
      replace HB19 := Lib.hid (HB19.out.ext hbr28)
      replace HB21 := Lib.hid (HB21.out.ext hbr28)
      replace HB23 := Lib.hid (HB23.out.ext hbr28)
      replace HB25 := Lib.hid (HB25.out.ext hbr28)
      replace HB27a := Lib.hid (HB27a.out.ext hbr28)
      replace HB27b := Lib.hid (HB27b.out.ext hbr28)
      replace HB := Lib.hid (HB.out.trans (hbr28.mono (show N ≤ _ by have := HB.out.size; have := HN.out; omega)))
      clear hbr28
      refine wpList_new1 rfl 26 rfl (NB 0) zNu rfl _ _ rfl rfl (NB c10) 32 (NB_rw c10) (NB_rw 0).size (by kernel_rfl) rfl rfl (fun B29 wr29 hB29 hbr29 hCB29 => ?_)
      have HB29 := Lib.hid hCB29
      have hlB29B3 : B3 < B29 := by rw [← hB29]; exact HB3.out.lt
      have hlB29B5 : B5 < B29 := by rw [← hB29]; exact HB5.out.lt
      have hlB29B7 : B7 < B29 := by rw [← hB29]; exact HB7.out.lt
      have hlB29B11 : B11 < B29 := by rw [← hB29]; exact HB11.out.lt
      have hlB29B15 : B15 < B29 := by rw [← hB29]; exact HB15.out.lt
      have hlB29B17 : B17 < B29 := by rw [← hB29]; exact HB17.out.lt
      have hlB29B19 : B19 < B29 := by rw [← hB29]; exact HB19.out.lt
      have hlB29B21 : B21 < B29 := by rw [← hB29]; exact HB21.out.lt
      have hlB29B23 : B23 < B29 := by rw [← hB29]; exact HB23.out.lt
      have hlB29B25 : B25 < B29 := by rw [← hB29]; exact HB25.out.lt
      have hlB29B27a : B27a < B29 := by rw [← hB29]; exact HB27a.out.lt
      have hlB29B27b : B27b < B29 := by rw [← hB29]; exact HB27b.out.lt
      have hNB29 : N ≤ B29 := by rw [← hB29]; have := HB.out.size; have := HN.out; omega
      clear hB29 hCB29
      simp only [Act.put, List.setIfInBounds_toArray, List.set]
      replace HB3 := Lib.hid (HB3.out.ext hbr29)
      replace HB5 := Lib.hid (HB5.out.ext hbr29)
      replace HB7 := Lib.hid (HB7.out.ext hbr29)
      replace HB11 := Lib.hid (HB11.out.ext hbr29)
      replace HB15 := Lib.hid (HB15.out.ext hbr29)
      replace HB17 := Lib.hid (HB17.out.ext hbr29)
      replace HB19 := Lib.hid (HB19.out.ext hbr29)
      replace HB21 := Lib.hid (HB21.out.ext hbr29)
      replace HB23 := Lib.hid (HB23.out.ext hbr29)
      replace HB25 := Lib.hid (HB25.out.ext hbr29)
      replace HB27a := Lib.hid (HB27a.out.ext hbr29)
      replace HB27b := Lib.hid (HB27b.out.ext hbr29)
      replace HB := Lib.hid (HB.out.trans (hbr29.mono (show N ≤ _ by have := HB.out.size; have := HN.out; omega)))
      clear hbr29
      go_upto_region 21 with fail
      refine wp_region_seq 6 ?_
      simp only [List.take_succ_cons, List.take_zero, List.drop_succ_cons, List.drop_zero]
      refine upW_call (by rfl) (by rfl) (.agg (NB 1)) _ rfl (by simp) (fun p => ?_) ?_
      · go_big_quiet_op
        exact ⟨_, fun q => Calls.ext_of (Of_one q.x), rfl⟩
      simp only [Act.put, List.setIfInBounds_toArray, List.set]
      refine upW_call (by rfl) (by rfl) (.agg (NB 1)) _ rfl (by simp) (fun p => ?_) ?_
      · go_big_quiet_op
        exact ⟨_, fun q => Calls.ext_of (Of_one q.x), rfl⟩
      simp only [Act.put, List.setIfInBounds_toArray, List.set]
      refine upW_call (by rfl) (by rfl) (.tuple #[.agg (PB 0), .bool false]) _ rfl (by simp) (fun p => ?_) ?_
      · go_big_quiet_op
        exact ⟨_, fun q => Calls.ext_of (Of_11 q.x), rfl⟩
      simp only [Act.put, List.setIfInBounds_toArray, List.set]
      refine upW_val (by rfl) (by rfl) (by rfl) ?_
      intro K hK
      go_big_quiet_op
      refine hK _ ?_
      refine upW_late (by rfl) (.agg (PB 0)) (fun _ => rfl) ?_
      simp only [Act.put, List.setIfInBounds_toArray, List.set]
      refine upW_late (by rfl) (.bool false) (fun _ => rfl) ?_
      simp only [Act.put, List.setIfInBounds_toArray, List.set]
      refine upW_nil (fun wr30 hbr30 => ?_)
      replace HB3 := Lib.hid (HB3.out.ext hbr30)
      replace HB5 := Lib.hid (HB5.out.ext hbr30)
      replace HB7 := Lib.hid (HB7.out.ext hbr30)
      replace HB11 := Lib.hid (HB11.out.ext hbr30)
      replace HB15 := Lib.hid (HB15.out.ext hbr30)
      replace HB17 := Lib.hid (HB17.out.ext hbr30)
      replace HB19 := Lib.hid (HB19.out.ext hbr30)
      replace HB21 := Lib.hid (HB21.out.ext hbr30)
      replace HB23 := Lib.hid (HB23.out.ext hbr30)
      replace HB25 := Lib.hid (HB25.out.ext hbr30)
      replace HB27a := Lib.hid (HB27a.out.ext hbr30)
      replace HB27b := Lib.hid (HB27b.out.ext hbr30)
      replace HB29 := Lib.hid (HB29.out.ext hbr30)
      replace HB := Lib.hid (HB.out.trans (hbr30.mono (show N ≤ _ by have := HB.out.size; have := HN.out; omega)))
      clear hbr30
      refine wpList_new1 rfl 24 rfl (PB 0) zPt rfl _ _ rfl rfl (PB 0) 32 (PB_rw 0) (PB_rw 0).size (by kernel_rfl) rfl rfl (fun B31 wr31 hB31 hbr31 hCB31 => ?_)
      have HB31 := Lib.hid hCB31
      have hlB31B3 : B3 < B31 := by rw [← hB31]; exact HB3.out.lt
      have hlB31B5 : B5 < B31 := by rw [← hB31]; exact HB5.out.lt
      have hlB31B7 : B7 < B31 := by rw [← hB31]; exact HB7.out.lt
      have hlB31B11 : B11 < B31 := by rw [← hB31]; exact HB11.out.lt
      have hlB31B15 : B15 < B31 := by rw [← hB31]; exact HB15.out.lt
      have hlB31B17 : B17 < B31 := by rw [← hB31]; exact HB17.out.lt
      have hlB31B19 : B19 < B31 := by rw [← hB31]; exact HB19.out.lt
      have hlB31B21 : B21 < B31 := by rw [← hB31]; exact HB21.out.lt
      have hlB31B23 : B23 < B31 := by rw [← hB31]; exact HB23.out.lt
      have hlB31B25 : B25 < B31 := by rw [← hB31]; exact HB25.out.lt
      have hlB31B27a : B27a < B31 := by rw [← hB31]; exact HB27a.out.lt
      have hlB31B27b : B27b < B31 := by rw [← hB31]; exact HB27b.out.lt
      have hlB31B29 : B29 < B31 := by rw [← hB31]; exact HB29.out.lt
      have hNB31 : N ≤ B31 := by rw [← hB31]; have := HB.out.size; have := HN.out; omega
      clear hB31 hCB31
      simp only [Act.put, List.setIfInBounds_toArray, List.set]
      replace HB3 := Lib.hid (HB3.out.ext hbr31)
      replace HB5 := Lib.hid (HB5.out.ext hbr31)
      replace HB7 := Lib.hid (HB7.out.ext hbr31)
      replace HB11 := Lib.hid (HB11.out.ext hbr31)
      replace HB15 := Lib.hid (HB15.out.ext hbr31)
      replace HB17 := Lib.hid (HB17.out.ext hbr31)
      replace HB19 := Lib.hid (HB19.out.ext hbr31)
      replace HB21 := Lib.hid (HB21.out.ext hbr31)
      replace HB23 := Lib.hid (HB23.out.ext hbr31)
      replace HB25 := Lib.hid (HB25.out.ext hbr31)
      replace HB27a := Lib.hid (HB27a.out.ext hbr31)
      replace HB27b := Lib.hid (HB27b.out.ext hbr31)
      replace HB29 := Lib.hid (HB29.out.ext hbr31)
      replace HB := Lib.hid (HB.out.trans (hbr31.mono (show N ≤ _ by have := HB.out.size; have := HN.out; omega)))
      clear hbr31
      go_upto_region 22 with fail
      refine wp_region_seq 8 ?_
      simp only [List.take_succ_cons, List.take_zero, List.drop_succ_cons, List.drop_zero]
      refine upW_late (by rfl) (.agg (NB 0)) (fun w => run_built _ _ _ _ rfl _ (by kernel_rfl) w) ?_
      simp only [Act.put, List.setIfInBounds_toArray, List.set]
      refine upW_late (by rfl) (.agg (NB 0)) (fun w => run_built _ _ _ _ rfl _ (by kernel_rfl) w) ?_
      simp only [Act.put, List.setIfInBounds_toArray, List.set]
      refine upW_call (by rfl) (by rfl) (.agg (NB 1)) _ rfl (by simp) (fun p => ?_) ?_
      · go_big_quiet_op
        exact ⟨_, fun q => Calls.ext_of (Of_one q.x), rfl⟩
      simp only [Act.put, List.setIfInBounds_toArray, List.set]
      refine upW_call (by rfl) (by rfl) (.agg (PB (pN pmin))) _ rfl (by simp) (fun p => ?_) ?_
      · go_big_quiet_op
        exact ⟨_, fun q => Calls.ext_of (Sub01 q.x), rfl⟩
      simp only [Act.put, List.setIfInBounds_toArray, List.set]
      refine upW_call (by rfl) (by rfl) (.tuple #[.agg (PB (pN pmin)), .bool true]) _ rfl (by simp) (fun p => ?_) ?_
      · go_big_quiet_op
        exact ⟨_, fun q => Calls.ext_of (Of_01 q.x), rfl⟩
      simp only [Act.put, List.setIfInBounds_toArray, List.set]
      refine upW_val (by rfl) (by rfl) (by rfl) ?_
      intro K hK
      go_big_quiet_op
      refine hK _ ?_
      refine upW_late (by rfl) (.agg (PB (pN pmin))) (fun _ => rfl) ?_
      simp only [Act.put, List.setIfInBounds_toArray, List.set]
      refine upW_late (by rfl) (.bool true) (fun _ => rfl) ?_
      simp only [Act.put, List.setIfInBounds_toArray, List.set]
      refine upW_nil (fun wr32 hbr32 => ?_)
      replace HB3 := Lib.hid (HB3.out.ext hbr32)
      replace HB5 := Lib.hid (HB5.out.ext hbr32)
      replace HB7 := Lib.hid (HB7.out.ext hbr32)
      replace HB11 := Lib.hid (HB11.out.ext hbr32)
      replace HB15 := Lib.hid (HB15.out.ext hbr32)
      replace HB17 := Lib.hid (HB17.out.ext hbr32)
      replace HB19 := Lib.hid (HB19.out.ext hbr32)
      replace HB21 := Lib.hid (HB21.out.ext hbr32)
      replace HB23 := Lib.hid (HB23.out.ext hbr32)
      replace HB25 := Lib.hid (HB25.out.ext hbr32)
      replace HB27a := Lib.hid (HB27a.out.ext hbr32)
      replace HB27b := Lib.hid (HB27b.out.ext hbr32)
      replace HB29 := Lib.hid (HB29.out.ext hbr32)
      replace HB31 := Lib.hid (HB31.out.ext hbr32)
      replace HB := Lib.hid (HB.out.trans (hbr32.mono (show N ≤ _ by have := HB.out.size; have := HN.out; omega)))
      clear hbr32
      refine wpList_new1 rfl 24 rfl (PB 0) zPt rfl _ _ rfl rfl (PB (pN pmin)) 32 (PB_rw (pN pmin)) (PB_rw 0).size (by kernel_rfl) rfl rfl (fun B33 wr33 hB33 hbr33 hCB33 => ?_)
      have HB33 := Lib.hid hCB33
      have hlB33B3 : B3 < B33 := by rw [← hB33]; exact HB3.out.lt
      have hlB33B5 : B5 < B33 := by rw [← hB33]; exact HB5.out.lt
      have hlB33B7 : B7 < B33 := by rw [← hB33]; exact HB7.out.lt
      have hlB33B11 : B11 < B33 := by rw [← hB33]; exact HB11.out.lt
      have hlB33B15 : B15 < B33 := by rw [← hB33]; exact HB15.out.lt
      have hlB33B17 : B17 < B33 := by rw [← hB33]; exact HB17.out.lt
      have hlB33B19 : B19 < B33 := by rw [← hB33]; exact HB19.out.lt
      have hlB33B21 : B21 < B33 := by rw [← hB33]; exact HB21.out.lt
      have hlB33B23 : B23 < B33 := by rw [← hB33]; exact HB23.out.lt
      have hlB33B25 : B25 < B33 := by rw [← hB33]; exact HB25.out.lt
      have hlB33B27a : B27a < B33 := by rw [← hB33]; exact HB27a.out.lt
      have hlB33B27b : B27b < B33 := by rw [← hB33]; exact HB27b.out.lt
      have hlB33B29 : B29 < B33 := by rw [← hB33]; exact HB29.out.lt
      have hlB33B31 : B31 < B33 := by rw [← hB33]; exact HB31.out.lt
      have hNB33 : N ≤ B33 := by rw [← hB33]; have := HB.out.size; have := HN.out; omega
      clear hB33 hCB33
      simp only [Act.put, List.setIfInBounds_toArray, List.set]
      replace HB3 := Lib.hid (HB3.out.ext hbr33)
      replace HB5 := Lib.hid (HB5.out.ext hbr33)
      replace HB7 := Lib.hid (HB7.out.ext hbr33)
      replace HB11 := Lib.hid (HB11.out.ext hbr33)
      replace HB15 := Lib.hid (HB15.out.ext hbr33)
      replace HB17 := Lib.hid (HB17.out.ext hbr33)
      replace HB19 := Lib.hid (HB19.out.ext hbr33)
      replace HB21 := Lib.hid (HB21.out.ext hbr33)
      replace HB23 := Lib.hid (HB23.out.ext hbr33)
      replace HB25 := Lib.hid (HB25.out.ext hbr33)
      replace HB27a := Lib.hid (HB27a.out.ext hbr33)
      replace HB27b := Lib.hid (HB27b.out.ext hbr33)
      replace HB29 := Lib.hid (HB29.out.ext hbr33)
      replace HB31 := Lib.hid (HB31.out.ext hbr33)
      replace HB := Lib.hid (HB.out.trans (hbr33.mono (show N ≤ _ by have := HB.out.size; have := HN.out; omega)))
      clear hbr33
      go_upto_region 23 with fail
      refine wp_region_seq 80 ?_
      simp only [List.append, List.take_succ_cons, List.take_zero, List.drop_succ_cons, List.drop_zero]
      refine upW_val (by rfl) (by rfl) (by rfl) (fun K hK => quiet_load_ct _ _ rfl B3 rfl 24 (PB (pN pzero)) 32 (PB_rw (pN pzero)) _ HB3.out Try.underlying24 rfl (by kernel_rfl) (hK _ ?_))
      simp only [Act.put, List.setIfInBounds_toArray, List.set]
      refine upW_call (by rfl) (by rfl) (.bool true) _ rfl (by simp) (fun p => ?_) ?_
      · go_big_quiet_op
        exact ⟨_, fun q => Calls.ext_of (HQ12.out q.x), rfl⟩
      simp only [Act.put, List.setIfInBounds_toArray, List.set]
      refine upW_val (by rfl) (by rfl) (by rfl) ?_
      intro K hK
      go_big_quiet_op
      refine hK _ ?_
      refine upW_val (by rfl) (by rfl) (by rfl) (fun K hK => quiet_load_ct _ _ rfl B5 rfl 24 (PB (pN pmin)) 32 (PB_rw (pN pmin)) _ HB5.out Try.underlying24 rfl (by kernel_rfl) (hK _ ?_))
      simp only [Act.put, List.setIfInBounds_toArray, List.set]
      refine upW_call (by rfl) (by rfl) (.bool true) _ rfl (by simp) (fun p => ?_) ?_
      · go_big_quiet_op
        exact ⟨_, fun q => Calls.ext_of (HQ13.out q.x), rfl⟩
      simp only [Act.put, List.setIfInBounds_toArray, List.set]
      refine upW_val (by rfl) (by rfl) (by rfl) ?_
      intro K hK
      go_big_quiet_op
      refine hK _ ?_
      refine upW_val (by rfl) (by rfl) (by rfl) ?_
      intro K hK
      go_big_quiet_op
      refine hK _ ?_
      refine upW_val (by rfl) (by rfl) (by rfl) (fun K hK => quiet_load_ct _ _ rfl B7 rfl 24 (PB oddN) 32 (PB_rw oddN) _ HB7.out Try.underlying24 rfl (by kernel_rfl) (hK _ ?_))
      simp only [Act.put, List.setIfInBounds_toArray, List.set]
      refine upW_call (by rfl) (by rfl) (.bool false) _ rfl (by simp) (fun p => ?_) ?_
      · go_big_quiet_op
        exact ⟨_, fun q => Calls.ext_of (HQ14.out q.x), rfl⟩
      simp only [Act.put, List.setIfInBounds_toArray, List.set]
      refine upW_val (by rfl) (by rfl) (by rfl) ?_
      intro K hK
      go_big_quiet_op
      refine hK _ ?_
      refine upW_val (by rfl) (by rfl) (by rfl) ?_
      intro K hK
      go_big_quiet_op
      refine hK _ ?_
      refine upW_val (by rfl) (by rfl) (by rfl) ?_
      intro K hK
      go_big_quiet_op
      refine hK _ ?_
      refine upW_val (by rfl) (by rfl) (by rfl) (fun K hK => quiet_load_ct _ _ rfl B11 rfl 24 (PB greatN) 32 (PB_rw greatN) _ HB11.out Try.underlying24 rfl (by kernel_rfl) (hK _ ?_))
      simp only [Act.put, List.setIfInBounds_toArray, List.set]
      refine upW_call (by rfl) (by rfl) (.bool false) _ rfl (by simp) (fun p => ?_) ?_
      · go_big_quiet_op
        exact ⟨_, fun q => Calls.ext_of (HQ15.out q.x), rfl⟩
      simp only [Act.put, List.setIfInBounds_toArray, List.set]
      refine upW_val (by rfl) (by rfl) (by rfl) ?_
      intro K hK
      go_big_quiet_op
      refine hK _ ?_
      refine upW_val (by rfl) (by rfl) (by rfl) ?_
      intro K hK
      go_big_quiet_op
      refine hK _ ?_
      refine upW_val (by rfl) (by rfl) (by rfl) ?_
      intro K hK
      go_big_quiet_op
      refine hK _ ?_
      refine upW_val (by rfl) (by rfl) (by rfl) (fun K hK => quiet_load_ct _ _ rfl B15 rfl 24 (PB 2) 32 (PB_rw 2) _ HB15.out Try.underlying24 rfl (by kernel_rfl) (hK _ ?_))
      simp only [Act.put, List.setIfInBounds_toArray, List.set]
      refine upW_call (by rfl) (by rfl) (.bool false) _ rfl (by simp) (fun p => ?_) ?_
      · go_big_quiet_op
        exact ⟨_, fun q => Calls.ext_of (HQ16.out q.x), rfl⟩
      simp only [Act.put, List.setIfInBounds_toArray, List.set]
      refine upW_val (by rfl) (by rfl) (by rfl) ?_
      intro K hK
      go_big_quiet_op
      refine hK _ ?_
      refine upW_val (by rfl) (by rfl) (by rfl) ?_
      intro K hK
      go_big_quiet_op
      refine hK _ ?_
      refine upW_val (by rfl) (by rfl) (by rfl) ?_
      intro K hK
      go_big_quiet_op
      refine hK _ ?_
      refine upW_val (by rfl) (by rfl) (by rfl) ?_
      intro K hK
      go_big_quiet_op
      refine hK _ ?_
      refine upW_val (by rfl) (by rfl) (by rfl) ?_
      intro K hK
      go_big_quiet_op
      refine hK _ ?_
      refine upW_val (by rfl) (by rfl) (by rfl) ?_
      intro K hK
      go_big_quiet_op
      refine hK _ ?_
      refine upW_val (by rfl) (by rfl) (by rfl) (fun K hK => quiet_load_ct _ _ rfl B17 rfl 24 (PB (pN q1)) 32 (PB_rw (pN q1)) _ HB17.out Try.underlying24 rfl (by kernel_rfl) (hK _ ?_))
      simp only [Act.put, List.setIfInBounds_toArray, List.set]
      refine upW_val (by rfl) (by rfl) (by rfl) (fun K hK => quiet_load_ct _ _ rfl B3 rfl 24 (PB (pN pzero)) 32 (PB_rw (pN pzero)) _ HB3.out Try.underlying24 rfl (by kernel_rfl) (hK _ ?_))
      simp only [Act.put, List.setIfInBounds_toArray, List.set]
      refine upW_late (by rfl) (.bool true) (fun w => run_eqP _ _ _ _ 24 rfl Try.underlying24 (pN q1) (pN pzero) rfl rfl (pN_lt q1) (pN_lt pzero) (by kernel_rfl) true (decide_eq_true (congrArg pN (by simp only [HE1.out, HE8.out, HE10.out]; exact pmin_dbl))) w) ?_
      simp only [Act.put, List.setIfInBounds_toArray, List.set]
      refine upW_val (by rfl) (by rfl) (by rfl) ?_
      intro K hK
      go_big_quiet_op
      refine hK _ ?_
      refine upW_val (by rfl) (by rfl) (by rfl) ?_
      intro K hK
      go_big_quiet_op
      refine hK _ ?_
      refine upW_val (by rfl) (by rfl) (by rfl) ?_
      intro K hK
      go_big_quiet_op
      refine hK _ ?_
      refine upW_val (by rfl) (by rfl) (by rfl) ?_
      intro K hK
      go_big_quiet_op
      refine hK _ ?_
      refine upW_val (by rfl) (by rfl) (by rfl) ?_
      intro K hK
      go_big_quiet_op
      refine hK _ ?_
      refine upW_val (by rfl) (by rfl) (by rfl) ?_
      intro K hK
      go_big_quiet_op
      refine hK _ ?_
      refine upW_val (by rfl) (by rfl) (by rfl) ?_
      intro K hK
      go_big_quiet_op
      refine hK _ ?_
      refine upW_val (by rfl) (by rfl) (by rfl) ?_
      intro K hK
      go_big_quiet_op
      refine hK _ ?_
      refine upW_val (by rfl) (by rfl) (by rfl) ?_
      intro K hK
      go_big_quiet_op
      refine hK _ ?_
      refine upW_val (by rfl) (by rfl) (by rfl) ?_
      intro K hK
      go_big_quiet_op
      refine hK _ ?_
      refine upW_val (by rfl) (by rfl) (by rfl) ?_
      intro K hK
      go_big_quiet_op
      refine hK _ ?_
      refine upW_val (by rfl) (by rfl) (by rfl) ?_
      intro K hK
      go_big_quiet_op
      refine hK _ ?_
      refine upW_val (by rfl) (by rfl) (by rfl) ?_
      intro K hK
      go_big_quiet_op
      refine hK _ ?_
      refine upW_val (by rfl) (by rfl) (by rfl) ?_
      intro K hK
      go_big_quiet_op
      refine hK _ ?_
      refine upW_val (by rfl) (by rfl) (by rfl) (fun K hK => quiet_load_ct _ _ rfl B23 rfl 24 (PB 0) 32 (PB_rw 0) _ HB23.out Try.underlying24 rfl (by kernel_rfl) (hK _ ?_))
      simp only [Act.put, List.setIfInBounds_toArray, List.set]
      refine upW_late (by rfl) (.agg (PB 0)) (fun w => run_built _ _ _ _ rfl _ (by kernel_rfl) w) ?_
      simp only [Act.put, List.setIfInBounds_toArray, List.set]
      refine upW_late (by rfl) (.bool true) (fun w => run_eqP _ _ _ _ 24 rfl Try.underlying24 0 0 rfl rfl (by decide) (by decide) (by kernel_rfl) true (decide_eq_true rfl) w) ?_
      simp only [Act.put, List.setIfInBounds_toArray, List.set]
      refine upW_val (by rfl) (by rfl) (by rfl) ?_
      intro K hK
      go_big_quiet_op
      refine hK _ ?_
      refine upW_val (by rfl) (by rfl) (by rfl) ?_
      intro K hK
      go_big_quiet_op
      refine hK _ ?_
      refine upW_val (by rfl) (by rfl) (by rfl) ?_
      intro K hK
      go_big_quiet_op
      refine hK _ ?_
      refine upW_val (by rfl) (by rfl) (by rfl) ?_
      intro K hK
      go_big_quiet_op
      refine hK _ ?_
      refine upW_val (by rfl) (by rfl) (by rfl) ?_
      intro K hK
      go_big_quiet_op
      refine hK _ ?_
      refine upW_val (by rfl) (by rfl) (by rfl) ?_
      intro K hK
      go_big_quiet_op
      refine hK _ ?_
      refine upW_val (by rfl) (by rfl) (by rfl) (fun K hK => quiet_load_ct _ _ rfl B25 rfl 24 (PB 0) 32 (PB_rw 0) _ HB25.out Try.underlying24 rfl (by kernel_rfl) (hK _ ?_))
      simp only [Act.put, List.setIfInBounds_toArray, List.set]
      refine upW_late (by rfl) (.agg (PB 0)) (fun w => run_built _ _ _ _ rfl _ (by kernel_rfl) w) ?_
      simp only [Act.put, List.setIfInBounds_toArray, List.set]
      refine upW_late (by rfl) (.bool true) (fun w => run_eqP _ _ _ _ 24 rfl Try.underlying24 0 0 rfl rfl (by decide) (by decide) (by kernel_rfl) true (decide_eq_true rfl) w) ?_
      simp only [Act.put, List.setIfInBounds_toArray, List.set]
      refine upW_val (by rfl) (by rfl) (by rfl) ?_
      intro K hK
      go_big_quiet_op
      refine hK _ ?_
      refine upW_val (by rfl) (by rfl) (by rfl) ?_
      intro K hK
      go_big_quiet_op
      refine hK _ ?_
      refine upW_val (by rfl) (by rfl) (by rfl) ?_
      intro K hK
      go_big_quiet_op
      refine hK _ ?_
      refine upW_val (by rfl) (by rfl) (by rfl) ?_
      intro K hK
      go_big_quiet_op
      refine hK _ ?_
      refine upW_val (by rfl) (by rfl) (by rfl) ?_
      intro K hK
      go_big_quiet_op
      refine hK _ ?_
      refine upW_val (by rfl) (by rfl) (by rfl) (fun K hK => quiet_load_ct _ _ rfl B27a rfl 26 (NB cB.x) 32 (NB_rw cB.x) _ HB27a.out Try.underlying26 rfl (by kernel_rfl) (hK _ ?_))
      simp only [Act.put, List.setIfInBounds_toArray, List.set]
      refine upW_call (by rfl) (by rfl) (.bool false) _ rfl (by simp) (fun p => ?_) ?_
      · go_big_quiet_op
        exact ⟨_, fun q => Calls.ext_of (Odd_B q.x), rfl⟩
      simp only [Act.put, List.setIfInBounds_toArray, List.set]
      refine upW_val (by rfl) (by rfl) (by rfl) ?_
      intro K hK
      go_big_quiet_op
      refine hK _ ?_
      refine upW_val (by rfl) (by rfl) (by rfl) ?_
      intro K hK
      go_big_quiet_op
      refine hK _ ?_
      refine upW_val (by rfl) (by rfl) (by rfl) ?_
      intro K hK
      go_big_quiet_op
      refine hK _ ?_
      refine upW_val (by rfl) (by rfl) (by rfl) (fun K hK => quiet_load_ct _ _ rfl B27b rfl 26 (NB cB.y) 32 (NB_rw cB.y) _ HB27b.out Try.underlying26 rfl (by kernel_rfl) (hK _ ?_))
      simp only [Act.put, List.setIfInBounds_toArray, List.set]
      refine upW_val (by rfl) (by rfl) (by rfl) (fun K hK => quiet_load_ct _ _ rfl B29 rfl 26 (NB c10) 32 (NB_rw c10) _ HB29.out Try.underlying26 rfl (by kernel_rfl) (hK _ ?_))
      simp only [Act.put, List.setIfInBounds_toArray, List.set]
      refine upW_late (by rfl) (.bool true) (fun w => run_eqP _ _ _ _ 26 rfl Try.underlying26 cB.y.val c10.val rfl rfl cB.y.lt256 c10.lt256 (by kernel_rfl) true (decide_eq_true (by simp only [HE1.out, HE8.out, HE10.out]; exact (by rw [y_known]))) w) ?_
      simp only [Act.put, List.setIfInBounds_toArray, List.set]
      refine upW_val (by rfl) (by rfl) (by rfl) ?_
      intro K hK
      go_big_quiet_op
      refine hK _ ?_
      refine upW_val (by rfl) (by rfl) (by rfl) ?_
      intro K hK
      go_big_quiet_op
      refine hK _ ?_
      refine upW_val (by rfl) (by rfl) (by rfl) ?_
      intro K hK
      go_big_quiet_op
      refine hK _ ?_
      refine upW_val (by rfl) (by rfl) (by rfl) ?_
      intro K hK
      go_big_quiet_op
      refine hK _ ?_
      refine upW_val (by rfl) (by rfl) (by rfl) ?_
      intro K hK
      go_big_quiet_op
      refine hK _ ?_
      refine upW_val (by rfl) (by rfl) (by rfl) ?_
      intro K hK
      go_big_quiet_op
      refine hK _ ?_
      refine upW_val (by rfl) (by rfl) (by rfl) ?_
      intro K hK
      go_big_quiet_op
      refine hK _ ?_
      refine upW_val (by rfl) (by rfl) (by rfl) ?_
      intro K hK
      go_big_quiet_op
      refine hK _ ?_
      refine upW_val (by rfl) (by rfl) (by rfl) ?_
      intro K hK
      go_big_quiet_op
      refine hK _ ?_
      refine upW_val (by rfl) (by rfl) (by rfl) (fun K hK => quiet_load_ct _ _ rfl B33 rfl 24 (PB (pN pmin)) 32 (PB_rw (pN pmin)) _ HB33.out Try.underlying24 rfl (by kernel_rfl) (hK _ ?_))
      simp only [Act.put, List.setIfInBounds_toArray, List.set]
      refine upW_val (by rfl) (by rfl) (by rfl) (fun K hK => quiet_load_ct _ _ rfl B5 rfl 24 (PB (pN pmin)) 32 (PB_rw (pN pmin)) _ HB5.out Try.underlying24 rfl (by kernel_rfl) (hK _ ?_))
      simp only [Act.put, List.setIfInBounds_toArray, List.set]
      refine upW_late (by rfl) (.bool true) (fun w => run_eqP _ _ _ _ 24 rfl Try.underlying24 (pN pmin) (pN pmin) rfl rfl (pN_lt pmin) (pN_lt pmin) (by kernel_rfl) true (decide_eq_true rfl) w) ?_
      simp only [Act.put, List.setIfInBounds_toArray, List.set]
      refine upW_val (by rfl) (by rfl) (by rfl) ?_
      intro K hK
      go_big_quiet_op
      refine hK _ ?_
      refine upW_nil (fun wr34 hbr34 => ?_)
      replace HB3 := Lib.hid (HB3.out.ext hbr34)
      replace HB5 := Lib.hid (HB5.out.ext hbr34)
      replace HB7 := Lib.hid (HB7.out.ext hbr34)
      replace HB11 := Lib.hid (HB11.out.ext hbr34)
      replace HB15 := Lib.hid (HB15.out.ext hbr34)
      replace HB17 := Lib.hid (HB17.out.ext hbr34)
      replace HB19 := Lib.hid (HB19.out.ext hbr34)
      replace HB21 := Lib.hid (HB21.out.ext hbr34)
      replace HB23 := Lib.hid (HB23.out.ext hbr34)
      replace HB25 := Lib.hid (HB25.out.ext hbr34)
      replace HB27a := Lib.hid (HB27a.out.ext hbr34)
      replace HB27b := Lib.hid (HB27b.out.ext hbr34)
      replace HB29 := Lib.hid (HB29.out.ext hbr34)
      replace HB31 := Lib.hid (HB31.out.ext hbr34)
      replace HB33 := Lib.hid (HB33.out.ext hbr34)
      replace HB := Lib.hid (HB.out.trans (hbr34.mono (show N ≤ _ by have := HB.out.size; have := HN.out; omega)))
      clear hbr34
      go_wp2
      go_ret
      exact ⟨rfl, by rw [HN.out]; exact HB.out⟩
theorem curveKnown_own : ownKnob Try.prog.godebug = none := by kernel_rfl

set_option maxRecDepth 100000 in
theorem curveKnown_lifted (os : Os) (started : os.Started) (H : Type) (enc : TypeId × Value → H) :
    ReturnsInHanded {} Try.checked os 3 .any (Rows.curveKnownSpec.pre6 enc Try.prog Try.f3 Rows.curveKnownRow.domain false) (Rows.curveKnownSpec.post enc Try.prog Try.f3 false true false false) := by
  refine returnsInHanded_of_change (C := Try.checked) curveKnown_own started (by kernel_rfl) Try.func3
    (ChangeSpec.witness6 (enc := enc) (C := Try.checked) false ⟨#[], #[], []⟩ 8 (by kernel_rfl) (by kernel_rfl) (by kernel_rfl) (by kernel_rfl)) ?_
  intro W base args ds gs before hval0 hW hcnd _
  have hW' := hW
  obtain ⟨p, q, hA0, hV, rfl, hfz, hnd⟩ := hW
  have hA : DataW.TrodAll enc Try.prog W 0 (fun _ => true) true Try.f3.params.toList args.toList ds p := hA0
  rw [Try.params3] at hA
  obtain ⟨rfl, rfl, rfl⟩ := trodAll_none hA
  obtain ⟨rfl, rfl⟩ := trodVars_none hV
  clear hA0 hval0
  simp only [List.append_nil] at hW'
  refine (curveKnown_true  W).mono fun e W' ⟨he, bel⟩ => ?_
  subst he
  exact ⟨_, rfl, _, _, _, [], [], [], hW', trodAll_mk1 (shut_bool Try.underlying4 _), trodAll_mk0, rfl, bel.frame _, fun h => by cases h⟩

theorem curveKnown_holds : Rows.CurveKnownSaid :=
  OpenClaim.holds_of_wide 3 Try.f3 rfl rfl rfl rfl rfl rfl rfl ⟨rfl, rfl, rfl, rfl, rfl⟩ rfl rfl rfl rfl rfl (by kernel_rfl) Try.func3 (by kernel_rfl)
    (of_decide_eq_true (by kernel_rfl)) (by unfold Func.isWrapper; first | (rw [if_pos (by decide +kernel)]; kernel_rfl) | (rw [if_neg (by decide +kernel)]; exact ⟨rfl, rfl⟩))
    (fun os started H enc _ => curveKnown_lifted os started H enc)
#print axioms curveKnown_holds

end Go.Proofs.Ytfmclkmmkceldaa
