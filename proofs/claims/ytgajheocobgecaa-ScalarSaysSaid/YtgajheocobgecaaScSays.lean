/-
  ScalarSays: any numbers of 256 bits, any bytes: each call tells what the document says.
  Conditions: none.
-/
import Derived.Test.YtgajheocobgecaaScL
import Derived.Test.YtgajheocobgecaaFdO
import Derived.Test.YtgajheocobgecaaUpT
namespace Go.Proofs.Ytgajheocobgecaa
open Go.RowKit

open Go.ChangeShapes Go.WideShapes Go.ChangeAt
set_option maxRecDepth 100000 in
set_option maxHeartbeats 1000000 in
theorem scalarSays_nat (a b c l : List UInt8) (ao : Option Addr) (len cap : Nat) (i : Int) (w : World) (hla : a.length = 32) (hlb : b.length = 32) (hlc : c.length = 32) (hv : Bys w (.slice ao len cap) l) (hi1 : -9223372036854775808 ≤ i) (hi2 : i ≤ 9223372036854775807) :
    Calls Try.prog 5 #[.agg (byteVals a).toArray, .agg (byteVals b).toArray, .agg (byteVals c).toArray, .slice ao len cap, .int .i64 i] w fun e w' => e = .returned (.bool true) ∧ Below w.heap.size w w' := by
  have HLA0 := Lib.hid hla
  have HLA1 := Lib.hid hlb
  have HLA2 := Lib.hid hlc
  have HBY := Lib.hid hv
  have HI := Lib.hid (show -9223372036854775808 ≤ i ∧ i ≤ 9223372036854775807 from ⟨hi1, hi2⟩)
  obtain ⟨bg, hbg⟩ : ∃ x, decide (le a < 7237005577332262213973186563042994240857116359379907606001950938285454250989) = x := ⟨_, rfl⟩
  obtain ⟨bb, hbb⟩ : ∃ x, bitB (le a) i = x := ⟨_, rfl⟩
  have HBG := Lib.hid hbg
  have HBB := Lib.hid hbb
  have hz := zM
  clear hla hlb hlc hv hi1 hi2 hbg hbb
  have HQH1 := Lib.hid (fun w => Good_sc a w HLA0.out)
  rw [show decide (le a < 7237005577332262213973186563042994240857116359379907606001950938285454250989) = bg from HBG.out] at HQH1
  have HQH2 := Lib.hid (fun w => GoodL_doc a w HLA0.out)
  rw [show decide (le a < 7237005577332262213973186563042994240857116359379907606001950938285454250989) = bg from HBG.out] at HQH2
  obtain ⟨rH3, hrH3⟩ : ∃ r, b32 (le l % 13407807929942597099574024998205846127479365820592393377723561443721764030073546976801874298166903427690031858186486050853753882811946569946433649006084096 % 7237005577332262213973186563042994240857116359379907606001950938285454250989) = r := ⟨_, rfl⟩
  have HQH3 := Lib.hid (fun v w (h : Bys w v l) => Of_sc v l w h)
  rw [hrH3] at HQH3
  have HLH3 := Lib.hid (show rH3.length = 32 by rw [← hrH3]; exact b32_len _)
  have HVH3 := Lib.hid (show le rH3 = (le l % 13407807929942597099574024998205846127479365820592393377723561443721764030073546976801874298166903427690031858186486050853753882811946569946433649006084096 % 7237005577332262213973186563042994240857116359379907606001950938285454250989) by rw [← hrH3]; exact le_b32 _ (lt4L (Nat.mod_lt _ L_pos)))
  clear hrH3
  obtain ⟨rH4, hrH4⟩ : ∃ r, b32 (le l % 13407807929942597099574024998205846127479365820592393377723561443721764030073546976801874298166903427690031858186486050853753882811946569946433649006084096 % 7237005577332262213973186563042994240857116359379907606001950938285454250989) = r := ⟨_, rfl⟩
  have HQH4 := Lib.hid (fun v w (h : Bys w v l) => OfL_doc v l w h)
  rw [hrH4] at HQH4
  have HLH4 := Lib.hid (show rH4.length = 32 by rw [← hrH4]; exact b32_len _)
  have HVH4 := Lib.hid (show le rH4 = (le l % 13407807929942597099574024998205846127479365820592393377723561443721764030073546976801874298166903427690031858186486050853753882811946569946433649006084096 % 7237005577332262213973186563042994240857116359379907606001950938285454250989) by rw [← hrH4]; exact le_b32 _ (lt4L (Nat.mod_lt _ L_pos)))
  clear hrH4
  obtain ⟨rH5, hrH5⟩ : ∃ r, b32 (oAdd (le a) (le b)) = r := ⟨_, rfl⟩
  have HQH5 := Lib.hid (fun w => Add_sc a b w HLA0.out HLA1.out)
  rw [hrH5] at HQH5
  have HLH5 := Lib.hid (show rH5.length = 32 by rw [← hrH5]; exact b32_len _)
  have HVH5 := Lib.hid (show le rH5 = (oAdd (le a) (le b)) by rw [← hrH5]; exact le_b32 _ (lt4L (oAdd_lt _ _ )))
  clear hrH5
  obtain ⟨rH6, hrH6⟩ : ∃ r, b32 (oAdd (le a) (le b)) = r := ⟨_, rfl⟩
  have HQH6 := Lib.hid (fun w => AddL_doc a b w HLA0.out HLA1.out)
  rw [hrH6] at HQH6
  have HLH6 := Lib.hid (show rH6.length = 32 by rw [← hrH6]; exact b32_len _)
  have HVH6 := Lib.hid (show le rH6 = (oAdd (le a) (le b)) by rw [← hrH6]; exact le_b32 _ (lt4L (oAdd_lt _ _ )))
  clear hrH6
  obtain ⟨rH7, hrH7⟩ : ∃ r, b32 (oNeg (le a)) = r := ⟨_, rfl⟩
  have HQH7 := Lib.hid (fun w => Neg_sc a w HLA0.out)
  rw [hrH7] at HQH7
  have HLH7 := Lib.hid (show rH7.length = 32 by rw [← hrH7]; exact b32_len _)
  have HVH7 := Lib.hid (show le rH7 = (oNeg (le a)) by rw [← hrH7]; exact le_b32 _ (lt4L (oNeg_lt _ )))
  clear hrH7
  obtain ⟨rH8, hrH8⟩ : ∃ r, b32 (oNeg (le a)) = r := ⟨_, rfl⟩
  have HQH8 := Lib.hid (fun w => NegL_doc a w HLA0.out)
  rw [hrH8] at HQH8
  have HLH8 := Lib.hid (show rH8.length = 32 by rw [← hrH8]; exact b32_len _)
  have HVH8 := Lib.hid (show le rH8 = (oNeg (le a)) by rw [← hrH8]; exact le_b32 _ (lt4L (oNeg_lt _ )))
  clear hrH8
  obtain ⟨rH9, hrH9⟩ : ∃ r, b32 (oMul (le a) (le b) (le c)) = r := ⟨_, rfl⟩
  have HQH9 := Lib.hid (fun w => MulAdd_sc a b c w HLA0.out HLA1.out HLA2.out)
  rw [hrH9] at HQH9
  have HLH9 := Lib.hid (show rH9.length = 32 by rw [← hrH9]; exact b32_len _)
  have HVH9 := Lib.hid (show le rH9 = (oMul (le a) (le b) (le c)) by rw [← hrH9]; exact le_b32 _ (lt4L (oMul_lt _ _ _ )))
  clear hrH9
  obtain ⟨rH10, hrH10⟩ : ∃ r, b32 (oMul (le a) (le b) (le c)) = r := ⟨_, rfl⟩
  have HQH10 := Lib.hid (fun w => MulAddL_doc a b c w HLA0.out HLA1.out HLA2.out)
  rw [hrH10] at HQH10
  have HLH10 := Lib.hid (show rH10.length = 32 by rw [← hrH10]; exact b32_len _)
  have HVH10 := Lib.hid (show le rH10 = (oMul (le a) (le b) (le c)) by rw [← hrH10]; exact le_b32 _ (lt4L (oMul_lt _ _ _ )))
  clear hrH10
  have HQH11 := Lib.hid (fun w => Bit_sc a (i) w HLA0.out HI.out.1 HI.out.2)
  rw [show bitB (le a) (i) = bb from HBB.out] at HQH11
  have HQH12 := Lib.hid (fun w => Bit_doc a (i) w HLA0.out HI.out.1 HI.out.2)
  rw [show bitB (le a) (i) = bb from HBB.out] at HQH12
  go_enter Try.func5, Try.ntmps5
  go_upto_region 1 with fail
  generalize hW1 : World.alloc _ _ = W1
  obtain ⟨N, hN⟩ : ∃ n, w.heap.size = n := ⟨_, rfl⟩
  have HX0 := Lib.hid (show BT W1 N 22 a by subst hW1; rw [← hN]; exact (alloc3_at w _ _ _).1)
  have HX1 := Lib.hid (show BT W1 (N + 1) 22 b by subst hW1; rw [← hN]; exact (alloc3_at w _ _ _).2.1)
  have HX2 := Lib.hid (show BT W1 (N + 1 + 1) 22 c by subst hW1; rw [← hN]; exact (alloc3_at w _ _ _).2.2)
  have HB := Lib.hid (show Below N w W1 by subst hW1; rw [← hN]; exact Below.alloc3 w _ _ _)
  have HN := Lib.hid hN
  rw [hN]
  clear hW1 hN
  go_wp2_with fail
  refine (awake8_any _).mono ?_
  rintro e wa ⟨rfl, hba⟩
  have HX0' := Lib.hid (HX0.out.ext hba)
  have HX1' := Lib.hid (HX1.out.ext hba)
  have HX2' := Lib.hid (HX2.out.ext hba)
  have HB' := Lib.hid (HB.out.trans (hba.mono (show N ≤ _ by have := HX0.out.lt; omega)))
  clear hba HB HX0 HX1 HX2
  have HB := HB'
  have HX0 := HX0'
  have HX1 := HX1'
  have HX2 := HX2'
  clear HB' HX0' HX1' HX2'
  have HBY' := Lib.hid (HBY.out.below (by rw [HN.out]; exact HB.out))
  clear HBY
  have HBY := HBY'
  clear HBY'
  by_cases hlen : 200 < len
  · have hlen' : (200 : Int) < (len : Int) := by omega
    have HF := HB
    go_wp2
    go_ret
    exact ⟨rfl, HN.out.symm ▸ HF.out⟩
  · have hlen' : ¬ (200 : Int) < (len : Int) := by omega
    clear hlen
    go_wp2_with fail
    refine wp_region_whole [0, 1, 2] [⟨3, _, 39, (byteVals (zerB 32)).toArray, 11, 6, _, 39, 19, (byteVals a).toArray⟩, ⟨4, _, 39, (byteVals (zerB 32)).toArray, 12, 7, _, 39, 20, (byteVals b).toArray⟩, ⟨5, _, 39, (byteVals (zerB 32)).toArray, 13, 8, _, 39, 21, (byteVals c).toArray⟩] [8, 7, 6, 5, 4, 3] (by kernel_rfl) (by kernel_rfl) (List.forall_mem_cons.2 ⟨⟨⟨rfl, rfl, rfl, fun a w => run_allocM a _ rfl w⟩, rfl, rfl, rfl, rfl, sM a HLA0.out, oN (zerB 32) a (zerB_len 32) HLA0.out, byteVals_one _⟩, (List.forall_mem_cons.2 ⟨⟨⟨rfl, rfl, rfl, fun a w => run_allocM a _ rfl w⟩, rfl, rfl, rfl, rfl, sM b HLA1.out, oN (zerB 32) b (zerB_len 32) HLA1.out, byteVals_one _⟩, (List.forall_mem_cons.2 ⟨⟨⟨rfl, rfl, rfl, fun a w => run_allocM a _ rfl w⟩, rfl, rfl, rfl, rfl, sM c HLA2.out, oN (zerB 32) c (zerB_len 32) HLA2.out, byteVals_one _⟩, (List.forall_mem_nil _)⟩)⟩)⟩) rfl ?_
    simp only [List.foldl, List.eraseIdx_cons_succ, List.eraseIdx_cons_zero]
    refine upW_val (by rfl) (by rfl) (by rfl) (fun K hK => quiet_load_row _ _ rfl N rfl 22 _ (0, 0) _ HX0.out Try.underlying22 rfl (sBr a HLA0.out) (hK _ ?_))
    simp only [Act.put, List.setIfInBounds_toArray, List.set]
    refine upW_val (by rfl) (by rfl) (by rfl) (fun K hK => quiet_load_row _ _ rfl (N + 1) rfl 22 _ (0, 0) _ HX1.out Try.underlying22 rfl (sBr b HLA1.out) (hK _ ?_))
    simp only [Act.put, List.setIfInBounds_toArray, List.set]
    refine upW_val (by rfl) (by rfl) (by rfl) (fun K hK => quiet_load_row _ _ rfl (N + 1 + 1) rfl 22 _ (0, 0) _ HX2.out Try.underlying22 rfl (sBr c HLA2.out) (hK _ ?_))
    simp only [Act.put, List.setIfInBounds_toArray, List.set]
    refine upW_nil ⟨(List.forall_mem_cons.2 ⟨rfl, (List.forall_mem_cons.2 ⟨rfl, (List.forall_mem_cons.2 ⟨rfl, (List.forall_mem_nil _)⟩)⟩)⟩), fun M w3 hM hne hbs => ?_⟩
    have hm0 := hM _ (List.mem_cons_self ..)
    have hm1 := hM _ (List.mem_cons_of_mem _ (List.mem_cons_self ..))
    have hm2 := hM _ (List.mem_cons_of_mem _ (List.mem_cons_of_mem _ (List.mem_cons_self ..)))
    have hn01 : M 3 ≠ M 4 := hne _ (List.mem_cons_self ..) _ (List.mem_cons_of_mem _ (List.mem_cons_self ..)) (show (3 : Nat) ≠ 4 by decide)
    have hn02 : M 3 ≠ M 5 := hne _ (List.mem_cons_self ..) _ (List.mem_cons_of_mem _ (List.mem_cons_of_mem _ (List.mem_cons_self ..))) (show (3 : Nat) ≠ 5 by decide)
    have hn12 : M 4 ≠ M 5 := hne _ (List.mem_cons_of_mem _ (List.mem_cons_self ..)) _ (List.mem_cons_of_mem _ (List.mem_cons_of_mem _ (List.mem_cons_self ..))) (show (4 : Nat) ≠ 5 by decide)
    clear hM hne
    simp only [List.foldr, pS, Act.put, List.setIfInBounds_toArray, List.set]
    obtain ⟨M0, hM0⟩ : ∃ m, M 3 = m := ⟨_, rfl⟩
    have HM0 := Lib.hid (show BT w3 M0 39 a by rw [← hM0]; exact hm0.2)
    obtain ⟨M1, hM1⟩ : ∃ m, M 4 = m := ⟨_, rfl⟩
    have HM1 := Lib.hid (show BT w3 M1 39 b by rw [← hM1]; exact hm1.2)
    obtain ⟨M2, hM2⟩ : ∃ m, M 5 = m := ⟨_, rfl⟩
    have HM2 := Lib.hid (show BT w3 M2 39 c by rw [← hM2]; exact hm2.2)
    rw [hM0, hM1] at hn01
    rw [hM0, hM2] at hn02
    rw [hM1, hM2] at hn12
    rw [hM0, hM1, hM2]
    clear hm0 hM0 hm1 hM1 hm2 hM2
    have HBY' := Lib.hid (HBY.out.below hbs)
    clear HBY
    have HBY := HBY'
    clear HBY' hlen'
    have HX0' := Lib.hid (HX0.out.ext hbs)
    have HX1' := Lib.hid (HX1.out.ext hbs)
    have HX2' := Lib.hid (HX2.out.ext hbs)
    have HB' := Lib.hid (HB.out.trans (hbs.mono (show N ≤ _ by have := HB.out.size; have := HN.out; omega)))
    clear hbs HB HX0 HX1 HX2
    have HB := HB'
    have HX0 := HX0'
    have HX1 := HX1'
    have HX2 := HX2'
    clear HB' HX0' HX1' HX2'
    go_upto_region 6 with fail
    refine wp_region_upT 48 _ (by kernel_rfl) (by kernel_rfl) rfl (by kernel_rfl) (fun _ _ dst _ _ h => by cases dst <;> exact h) ?_
    simp only [List.take_succ_cons, List.take_zero, List.drop_succ_cons, List.drop_zero]
    refine upW_val (by rfl) (by rfl) (by rfl) (fun K hK => quiet_load_row _ _ rfl M0 rfl 39 _ (0, 0) _ HM0.out Try.underlying39 rfl (sM a HLA0.out) (hK _ ?_))
    simp only [Act.put, List.setIfInBounds_toArray, List.set]
    refine upW_call (by rfl) (by rfl) (.bool bg) _ rfl (by simp) (fun p => ?_) ?_
    · go_big_quiet_op
      exact ⟨_, fun q => Calls.ext_of (HQH1.out q.x), rfl⟩
    simp only [Act.put, List.setIfInBounds_toArray, List.set]
    refine upW_val (by rfl) (by rfl) (by rfl) (fun K hK => quiet_load_row _ _ rfl N rfl 22 _ (0, 0) _ HX0.out Try.underlying22 rfl (sBr a HLA0.out) (hK _ ?_))
    simp only [Act.put, List.setIfInBounds_toArray, List.set]
    refine upW_call (by rfl) (by rfl) (.bool bg) _ rfl (by simp) (fun p => ?_) ?_
    · go_big_quiet_op
      exact ⟨_, fun q => Calls.ext_of (HQH2.out q.x), rfl⟩
    simp only [Act.put, List.setIfInBounds_toArray, List.set]
    refine upW_val (by rfl) (by rfl) (by rfl) ?_
    intro K hK
    go_big_quiet_op
    refine hK _ ?_
    refine upW_val (by rfl) (by rfl) (by rfl) ?_
    intro K hK
    go_big_quiet_op
    refine hK _ ?_
    refine upW_val (by rfl) (by rfl) (by rfl) ?_
    intro K hK
    go_big_quiet_op
    refine hK _ ?_
    refine upW_call (by rfl) (by rfl) (.agg (byteVals rH3).toArray) _ rfl (by simp) (fun p => ?_) ?_
    · go_big_quiet_op
      exact ⟨_, fun q => Calls.ext_of (HQH3.out _ q.x (HBY.out.below (p.h.trans (q.h.mono p.h.size)))), rfl⟩
    simp only [Act.put, List.setIfInBounds_toArray, List.set]
    refine upW_val (by rfl) (by rfl) (by rfl) ?_
    intro K hK
    go_big_quiet_op
    refine hK _ ?_
    refine upW_call (by rfl) (by rfl) (.agg (byteVals rH4).toArray) _ rfl (by simp) (fun p => ?_) ?_
    · go_big_quiet_op
      exact ⟨_, fun q => Calls.ext_of (HQH4.out _ q.x (HBY.out.below (p.h.trans (q.h.mono p.h.size)))), rfl⟩
    simp only [Act.put, List.setIfInBounds_toArray, List.set]
    refine upW_late (by rfl) (.bool true) (fun w => run_eqN rH3 rH4 HLH3.out HLH4.out _ _ _ _ 22 rfl Try.underlying22 (by kernel_rfl) rfl rfl true (decide_eq_true (eq_le32 HLH3.out HLH4.out (by rw [HVH3.out, HVH4.out]))) w) ?_
    simp only [Act.put, List.setIfInBounds_toArray, List.set]
    refine upW_val (by rfl) (by rfl) (by rfl) ?_
    intro K hK
    go_big_quiet_op
    refine hK _ ?_
    refine upW_val (by rfl) (by rfl) (by rfl) ?_
    intro K hK
    go_big_quiet_op
    refine hK _ ?_
    refine upW_val (by rfl) (by rfl) (by rfl) (fun K hK => quiet_load_row _ _ rfl M0 rfl 39 _ (0, 0) _ HM0.out Try.underlying39 rfl (sM a HLA0.out) (hK _ ?_))
    simp only [Act.put, List.setIfInBounds_toArray, List.set]
    refine upW_val (by rfl) (by rfl) (by rfl) (fun K hK => quiet_load_row _ _ rfl M1 rfl 39 _ (0, 0) _ HM1.out Try.underlying39 rfl (sM b HLA1.out) (hK _ ?_))
    simp only [Act.put, List.setIfInBounds_toArray, List.set]
    refine upW_call (by rfl) (by rfl) (.agg (byteVals rH5).toArray) _ rfl (by simp) (fun p => ?_) ?_
    · go_big_quiet_op
      exact ⟨_, fun q => Calls.ext_of (HQH5.out q.x), rfl⟩
    simp only [Act.put, List.setIfInBounds_toArray, List.set]
    refine upW_val (by rfl) (by rfl) (by rfl) (fun K hK => quiet_load_row _ _ rfl N rfl 22 _ (0, 0) _ HX0.out Try.underlying22 rfl (sBr a HLA0.out) (hK _ ?_))
    simp only [Act.put, List.setIfInBounds_toArray, List.set]
    refine upW_val (by rfl) (by rfl) (by rfl) (fun K hK => quiet_load_row _ _ rfl (N + 1) rfl 22 _ (0, 0) _ HX1.out Try.underlying22 rfl (sBr b HLA1.out) (hK _ ?_))
    simp only [Act.put, List.setIfInBounds_toArray, List.set]
    refine upW_call (by rfl) (by rfl) (.agg (byteVals rH6).toArray) _ rfl (by simp) (fun p => ?_) ?_
    · go_big_quiet_op
      exact ⟨_, fun q => Calls.ext_of (HQH6.out q.x), rfl⟩
    simp only [Act.put, List.setIfInBounds_toArray, List.set]
    refine upW_late (by rfl) (.bool true) (fun w => run_eqN rH5 rH6 HLH5.out HLH6.out _ _ _ _ 22 rfl Try.underlying22 (by kernel_rfl) rfl rfl true (decide_eq_true (eq_le32 HLH5.out HLH6.out (by rw [HVH5.out, HVH6.out]))) w) ?_
    simp only [Act.put, List.setIfInBounds_toArray, List.set]
    refine upW_val (by rfl) (by rfl) (by rfl) ?_
    intro K hK
    go_big_quiet_op
    refine hK _ ?_
    refine upW_val (by rfl) (by rfl) (by rfl) ?_
    intro K hK
    go_big_quiet_op
    refine hK _ ?_
    refine upW_val (by rfl) (by rfl) (by rfl) (fun K hK => quiet_load_row _ _ rfl M0 rfl 39 _ (0, 0) _ HM0.out Try.underlying39 rfl (sM a HLA0.out) (hK _ ?_))
    simp only [Act.put, List.setIfInBounds_toArray, List.set]
    refine upW_call (by rfl) (by rfl) (.agg (byteVals rH7).toArray) _ rfl (by simp) (fun p => ?_) ?_
    · go_big_quiet_op
      exact ⟨_, fun q => Calls.ext_of (HQH7.out q.x), rfl⟩
    simp only [Act.put, List.setIfInBounds_toArray, List.set]
    refine upW_val (by rfl) (by rfl) (by rfl) (fun K hK => quiet_load_row _ _ rfl N rfl 22 _ (0, 0) _ HX0.out Try.underlying22 rfl (sBr a HLA0.out) (hK _ ?_))
    simp only [Act.put, List.setIfInBounds_toArray, List.set]
    refine upW_call (by rfl) (by rfl) (.agg (byteVals rH8).toArray) _ rfl (by simp) (fun p => ?_) ?_
    · go_big_quiet_op
      exact ⟨_, fun q => Calls.ext_of (HQH8.out q.x), rfl⟩
    simp only [Act.put, List.setIfInBounds_toArray, List.set]
    refine upW_late (by rfl) (.bool true) (fun w => run_eqN rH7 rH8 HLH7.out HLH8.out _ _ _ _ 22 rfl Try.underlying22 (by kernel_rfl) rfl rfl true (decide_eq_true (eq_le32 HLH7.out HLH8.out (by rw [HVH7.out, HVH8.out]))) w) ?_
    simp only [Act.put, List.setIfInBounds_toArray, List.set]
    refine upW_val (by rfl) (by rfl) (by rfl) ?_
    intro K hK
    go_big_quiet_op
    refine hK _ ?_
    refine upW_val (by rfl) (by rfl) (by rfl) ?_
    intro K hK
    go_big_quiet_op
    refine hK _ ?_
    refine upW_val (by rfl) (by rfl) (by rfl) (fun K hK => quiet_load_row _ _ rfl M0 rfl 39 _ (0, 0) _ HM0.out Try.underlying39 rfl (sM a HLA0.out) (hK _ ?_))
    simp only [Act.put, List.setIfInBounds_toArray, List.set]
    refine upW_val (by rfl) (by rfl) (by rfl) (fun K hK => quiet_load_row _ _ rfl M1 rfl 39 _ (0, 0) _ HM1.out Try.underlying39 rfl (sM b HLA1.out) (hK _ ?_))
    simp only [Act.put, List.setIfInBounds_toArray, List.set]
    refine upW_val (by rfl) (by rfl) (by rfl) (fun K hK => quiet_load_row _ _ rfl M2 rfl 39 _ (0, 0) _ HM2.out Try.underlying39 rfl (sM c HLA2.out) (hK _ ?_))
    simp only [Act.put, List.setIfInBounds_toArray, List.set]
    refine upW_call (by rfl) (by rfl) (.agg (byteVals rH9).toArray) _ rfl (by simp) (fun p => ?_) ?_
    · go_big_quiet_op
      exact ⟨_, fun q => Calls.ext_of (HQH9.out q.x), rfl⟩
    simp only [Act.put, List.setIfInBounds_toArray, List.set]
    refine upW_val (by rfl) (by rfl) (by rfl) (fun K hK => quiet_load_row _ _ rfl N rfl 22 _ (0, 0) _ HX0.out Try.underlying22 rfl (sBr a HLA0.out) (hK _ ?_))
    simp only [Act.put, List.setIfInBounds_toArray, List.set]
    refine upW_val (by rfl) (by rfl) (by rfl) (fun K hK => quiet_load_row _ _ rfl (N + 1) rfl 22 _ (0, 0) _ HX1.out Try.underlying22 rfl (sBr b HLA1.out) (hK _ ?_))
    simp only [Act.put, List.setIfInBounds_toArray, List.set]
    refine upW_val (by rfl) (by rfl) (by rfl) (fun K hK => quiet_load_row _ _ rfl (N + 1 + 1) rfl 22 _ (0, 0) _ HX2.out Try.underlying22 rfl (sBr c HLA2.out) (hK _ ?_))
    simp only [Act.put, List.setIfInBounds_toArray, List.set]
    refine upW_call (by rfl) (by rfl) (.agg (byteVals rH10).toArray) _ rfl (by simp) (fun p => ?_) ?_
    · go_big_quiet_op
      exact ⟨_, fun q => Calls.ext_of (HQH10.out q.x), rfl⟩
    simp only [Act.put, List.setIfInBounds_toArray, List.set]
    refine upW_late (by rfl) (.bool true) (fun w => run_eqN rH9 rH10 HLH9.out HLH10.out _ _ _ _ 22 rfl Try.underlying22 (by kernel_rfl) rfl rfl true (decide_eq_true (eq_le32 HLH9.out HLH10.out (by rw [HVH9.out, HVH10.out]))) w) ?_
    simp only [Act.put, List.setIfInBounds_toArray, List.set]
    refine upW_val (by rfl) (by rfl) (by rfl) ?_
    intro K hK
    go_big_quiet_op
    refine hK _ ?_
    refine upW_val (by rfl) (by rfl) (by rfl) ?_
    intro K hK
    go_big_quiet_op
    refine hK _ ?_
    refine upW_val (by rfl) (by rfl) (by rfl) (fun K hK => quiet_load_row _ _ rfl M0 rfl 39 _ (0, 0) _ HM0.out Try.underlying39 rfl (sM a HLA0.out) (hK _ ?_))
    simp only [Act.put, List.setIfInBounds_toArray, List.set]
    refine upW_val (by rfl) (by rfl) (by rfl) ?_
    intro K hK
    go_big_quiet_op
    refine hK _ ?_
    refine upW_call (by rfl) (by rfl) (.bool bb) _ rfl (by simp) (fun p => ?_) ?_
    · go_big_quiet_op
      exact ⟨_, fun q => Calls.ext_of (HQH11.out q.x), rfl⟩
    simp only [Act.put, List.setIfInBounds_toArray, List.set]
    refine upW_val (by rfl) (by rfl) (by rfl) (fun K hK => quiet_load_row _ _ rfl N rfl 22 _ (0, 0) _ HX0.out Try.underlying22 rfl (sBr a HLA0.out) (hK _ ?_))
    simp only [Act.put, List.setIfInBounds_toArray, List.set]
    refine upW_val (by rfl) (by rfl) (by rfl) ?_
    intro K hK
    go_big_quiet_op
    refine hK _ ?_
    refine upW_call (by rfl) (by rfl) (.bool bb) _ rfl (by simp) (fun p => ?_) ?_
    · go_big_quiet_op
      exact ⟨_, fun q => Calls.ext_of (HQH12.out q.x), rfl⟩
    simp only [Act.put, List.setIfInBounds_toArray, List.set]
    refine upW_val (by rfl) (by rfl) (by rfl) ?_
    intro K hK
    go_big_quiet_op
    refine hK _ ?_
    refine upW_val (by rfl) (by rfl) (by rfl) ?_
    intro K hK
    go_big_quiet_op
    refine hK _ ?_
    refine upW_nil (fun w6 hbs => ?_)
    have HF := Lib.hid (HB.out.trans (hbs.mono (show N ≤ _ by have := HB.out.size; have := HN.out; omega)))
    clear hbs
    go_wp2
    go_ret
    exact ⟨rfl, HN.out.symm ▸ HF.out⟩
theorem scalarSays_true (a b c l : List UInt8) (v : Value) (i : Int) (w : World) (hla : a.length = 32) (hlb : b.length = 32) (hlc : c.length = 32) (hv : Bys w v l) (hi : (Lit.int .i64 i).wf = true) :
    Calls Try.prog 5 #[.agg (byteVals a).toArray, .agg (byteVals b).toArray, .agg (byteVals c).toArray, v, .int .i64 i] w fun e w' => e = .returned (.bool true) ∧ Below w.heap.size w w' := by
  have hv' := hv
  obtain ⟨ao, cap, rfl, _⟩ := hv
  simp [Lit.wf, IntKind.min, IntKind.max, IntKind.signed, IntKind.bits] at hi
  exact scalarSays_nat a b c l ao _ cap i w hla hlb hlc hv' (by omega) (by omega)
theorem scalarSays_own : ownKnob Try.prog.godebug = none := by kernel_rfl
theorem scalarSays_laid : laidOutB Try.prog = true := by kernel_rfl

set_option maxRecDepth 100000 in
theorem scalarSays_lifted (os : Os) (started : os.Started) (H : Type) (enc : TypeId × Value → H) :
    ReturnsInHanded {} Try.checked os 5 .any (Rows.scalarSaysSpec.pre6 enc Try.prog Try.f5 Rows.scalarSaysRow.domain false) (Rows.scalarSaysSpec.post enc Try.prog Try.f5 false true false false) := by
  refine returnsInHanded_of_change (C := Try.checked) scalarSays_own started (by kernel_rfl) Try.func5
    (ChangeSpec.witness6 (enc := enc) (C := Try.checked) false ⟨#[], #[.agg (Array.replicate 32 (.int .u8 0)), .agg (Array.replicate 32 (.int .u8 0)), .agg (Array.replicate 32 (.int .u8 0)), .slice none 0 0, .int .i64 0], []⟩ 8 (by kernel_rfl) (by kernel_rfl) (by kernel_rfl) (by kernel_rfl)) ?_
  intro W base args ds gs before hval0 hW hcnd _
  have hval : ∀ (j : Nat) t v, Try.f5.params[j]? = some t → args[j]? = some v → Value.okWide Try.prog W .any base t v := hval0
  have hW' := hW
  obtain ⟨p, q, hA0, hV, rfl, hfz, hnd⟩ := hW
  have hA : DataW.TrodAll enc Try.prog W 0 (fun _ => true) true Try.f5.params.toList args.toList ds p := hA0
  rw [Try.params5] at hA hval
  obtain ⟨v0, vs0, d0, ds0, p0, q0, hargs, rfl, rfl, h0, r0⟩ := trodAll_cons hA
  obtain ⟨v1, vs1, d1, ds1, p1, q1, rfl, rfl, rfl, h1, r1⟩ := trodAll_cons r0
  obtain ⟨v2, vs2, d2, ds2, p2, q2, rfl, rfl, rfl, h2, r2⟩ := trodAll_cons r1
  obtain ⟨v3, vs3, d3, ds3, p3, q3, rfl, rfl, rfl, h3, r3⟩ := trodAll_cons r2
  obtain ⟨v4, vs4, d4, ds4, p4, q4, rfl, rfl, rfl, h4, r4⟩ := trodAll_cons r3
  obtain ⟨rfl, rfl, rfl⟩ := trodAll_nil r4
  obtain rfl : args = #[v0, v1, v2, v3, v4] := by cases args; simp_all
  obtain ⟨rfl, rfl⟩ := trodVars_none hV
  obtain ⟨a0, hl0, rfl, rfl, rfl⟩ := open_arr8 Try.underlying22 Try.underlying5 (by kernel_rfl) (by kernel_rfl) (hval 0 22 v0 rfl rfl) h0
  obtain ⟨a1, hl1, rfl, rfl, rfl⟩ := open_arr8 Try.underlying22 Try.underlying5 (by kernel_rfl) (by kernel_rfl) (hval 1 22 v1 rfl rfl) h1
  obtain ⟨a2, hl2, rfl, rfl, rfl⟩ := open_arr8 Try.underlying22 Try.underlying5 (by kernel_rfl) (by kernel_rfl) (hval 2 22 v2 rfl rfl) h2
  have hlt3 : ∀ x ∈ p3, x.block < W.heap.size := fun x hx => hW'.lt x (by simp [hx])
  have hh3 := h3
  obtain ⟨l3, hv3⟩ := open_bys (hval 3 41 v3 rfl rfl) h3
  obtain ⟨a4, rfl, rfl, rfl, w4⟩ := open_int Try.underlying3 (hval 4 3 v4 rfl rfl) h4
  clear hA0 hval0
  simp only [List.append_nil] at hW'
  refine (scalarSays_true a0 a1 a2 l3 v3 a4 W hl0 hl1 hl2 hv3 w4).mono fun e W' ⟨he, bel⟩ => ?_
  subst he
  exact ⟨_, rfl, _, _, _, [], _, [], hW', trodAll_mk1 (shut_bool Try.underlying4 _), (trodAll_cons_mk (shut_arr8 Try.underlying22 Try.underlying5 (by kernel_rfl) (by kernel_rfl) a0 hl0) (trodAll_cons_mk (shut_arr8 Try.underlying22 Try.underlying5 (by kernel_rfl) (by kernel_rfl) a1 hl1) (trodAll_cons_mk (shut_arr8 Try.underlying22 Try.underlying5 (by kernel_rfl) (by kernel_rfl) a2 hl2) (trodAll_cons_mk (Below.trod scalarSays_laid (by kernel_rfl) (of_decide_eq_true (by kernel_rfl)) hh3 bel hlt3) (trodAll_cons_mk (shut_int Try.underlying3 w4) trodAll_mk0))))), rfl, bel.frame _, fun h => by cases h⟩

theorem scalarSays_holds : Rows.ScalarSaysSaid :=
  OpenClaim.holds_of_wide 5 Try.f5 rfl rfl rfl rfl rfl rfl rfl ⟨rfl, rfl, rfl, rfl, rfl⟩ rfl rfl rfl rfl rfl (by kernel_rfl) Try.func5 (by kernel_rfl)
    (of_decide_eq_true (by kernel_rfl)) (by unfold Func.isWrapper; first | (rw [if_pos (by decide +kernel)]; kernel_rfl) | (rw [if_neg (by decide +kernel)]; exact ⟨rfl, rfl⟩))
    (fun os started H enc _ => scalarSays_lifted os started H enc)
#print axioms scalarSays_holds

end Go.Proofs.Ytgajheocobgecaa
