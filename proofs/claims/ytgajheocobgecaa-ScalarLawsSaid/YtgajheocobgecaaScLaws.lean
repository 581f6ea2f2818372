/-
  ScalarLaws: sums and products of any three numbers are the same in whatever order and bracket; a number and its Neg are nought; all that is told is Good.
  Conditions: none.
-/
import Derived.Test.YtgajheocobgecaaScL
import Derived.Test.YtgajheocobgecaaFdO
import Derived.Test.YtgajheocobgecaaUpT
namespace Go.Proofs.Ytgajheocobgecaa
open Go.RowKit

open Go.ChangeShapes Go.WideShapes Go.ChangeAt
set_option maxRecDepth 100000 in
set_option maxHeartbeats 1000000 in
theorem scalarLaws_true (a b c : List UInt8) (w : World) (hla : a.length = 32) (hlb : b.length = 32) (hlc : c.length = 32) :
    Calls Try.prog 6 #[.agg (byteVals a).toArray, .agg (byteVals b).toArray, .agg (byteVals c).toArray] w fun e w' => e = .returned (.bool true) ∧ Below w.heap.size w w' := by
  have HLA0 := Lib.hid hla
  have HLA1 := Lib.hid hlb
  have HLA2 := Lib.hid hlc
  have hz := zM
  clear hla hlb hlc
  obtain ⟨rH1, hrH1⟩ : ∃ r, b32 (oMul (le a) (le b) (le (zerB 32))) = r := ⟨_, rfl⟩
  have HQH1 := Lib.hid (fun w => MulAdd_sc a b (zerB 32) w HLA0.out HLA1.out (zerB_len 32))
  rw [hrH1] at HQH1
  have HLH1 := Lib.hid (show rH1.length = 32 by rw [← hrH1]; exact b32_len _)
  have HVH1 := Lib.hid (show le rH1 = (oMul (le a) (le b) (le (zerB 32))) by rw [← hrH1]; exact le_b32 _ (lt4L (oMul_lt _ _ _ )))
  clear hrH1
  obtain ⟨rH2, hrH2⟩ : ∃ r, b32 (oAdd (le b) (le c)) = r := ⟨_, rfl⟩
  have HQH2 := Lib.hid (fun w => Add_sc b c w HLA1.out HLA2.out)
  rw [hrH2] at HQH2
  have HLH2 := Lib.hid (show rH2.length = 32 by rw [← hrH2]; exact b32_len _)
  have HVH2 := Lib.hid (show le rH2 = (oAdd (le b) (le c)) by rw [← hrH2]; exact le_b32 _ (lt4L (oAdd_lt _ _ )))
  clear hrH2
  obtain ⟨rH3, hrH3⟩ : ∃ r, b32 (oAdd (le a) (le rH2)) = r := ⟨_, rfl⟩
  have HQH3 := Lib.hid (fun w => Add_sc a rH2 w HLA0.out HLH2.out)
  rw [hrH3] at HQH3
  have HLH3 := Lib.hid (show rH3.length = 32 by rw [← hrH3]; exact b32_len _)
  have HVH3 := Lib.hid (show le rH3 = (oAdd (le a) (le rH2)) by rw [← hrH3]; exact le_b32 _ (lt4L (oAdd_lt _ _ )))
  clear hrH3
  obtain ⟨rH4, hrH4⟩ : ∃ r, b32 (oAdd (le a) (le b)) = r := ⟨_, rfl⟩
  have HQH4 := Lib.hid (fun w => Add_sc a b w HLA0.out HLA1.out)
  rw [hrH4] at HQH4
  have HLH4 := Lib.hid (show rH4.length = 32 by rw [← hrH4]; exact b32_len _)
  have HVH4 := Lib.hid (show le rH4 = (oAdd (le a) (le b)) by rw [← hrH4]; exact le_b32 _ (lt4L (oAdd_lt _ _ )))
  clear hrH4
  obtain ⟨rH5, hrH5⟩ : ∃ r, b32 (oAdd (le rH4) (le c)) = r := ⟨_, rfl⟩
  have HQH5 := Lib.hid (fun w => Add_sc rH4 c w HLH4.out HLA2.out)
  rw [hrH5] at HQH5
  have HLH5 := Lib.hid (show rH5.length = 32 by rw [← hrH5]; exact b32_len _)
  have HVH5 := Lib.hid (show le rH5 = (oAdd (le rH4) (le c)) by rw [← hrH5]; exact le_b32 _ (lt4L (oAdd_lt _ _ )))
  clear hrH5
  obtain ⟨rH6, hrH6⟩ : ∃ r, b32 (oAdd (le a) (le b)) = r := ⟨_, rfl⟩
  have HQH6 := Lib.hid (fun w => Add_sc a b w HLA0.out HLA1.out)
  rw [hrH6] at HQH6
  have HLH6 := Lib.hid (show rH6.length = 32 by rw [← hrH6]; exact b32_len _)
  have HVH6 := Lib.hid (show le rH6 = (oAdd (le a) (le b)) by rw [← hrH6]; exact le_b32 _ (lt4L (oAdd_lt _ _ )))
  clear hrH6
  obtain ⟨rH7, hrH7⟩ : ∃ r, b32 (oAdd (le b) (le a)) = r := ⟨_, rfl⟩
  have HQH7 := Lib.hid (fun w => Add_sc b a w HLA1.out HLA0.out)
  rw [hrH7] at HQH7
  have HLH7 := Lib.hid (show rH7.length = 32 by rw [← hrH7]; exact b32_len _)
  have HVH7 := Lib.hid (show le rH7 = (oAdd (le b) (le a)) by rw [← hrH7]; exact le_b32 _ (lt4L (oAdd_lt _ _ )))
  clear hrH7
  obtain ⟨rH8, hrH8⟩ : ∃ r, b32 (oNeg (le a)) = r := ⟨_, rfl⟩
  have HQH8 := Lib.hid (fun w => Neg_sc a w HLA0.out)
  rw [hrH8] at HQH8
  have HLH8 := Lib.hid (show rH8.length = 32 by rw [← hrH8]; exact b32_len _)
  have HVH8 := Lib.hid (show le rH8 = (oNeg (le a)) by rw [← hrH8]; exact le_b32 _ (lt4L (oNeg_lt _ )))
  clear hrH8
  obtain ⟨rH9, hrH9⟩ : ∃ r, b32 (oAdd (le a) (le rH8)) = r := ⟨_, rfl⟩
  have HQH9 := Lib.hid (fun w => Add_sc a rH8 w HLA0.out HLH8.out)
  rw [hrH9] at HQH9
  have HLH9 := Lib.hid (show rH9.length = 32 by rw [← hrH9]; exact b32_len _)
  have HVH9 := Lib.hid (show le rH9 = (oAdd (le a) (le rH8)) by rw [← hrH9]; exact le_b32 _ (lt4L (oAdd_lt _ _ )))
  clear hrH9
  obtain ⟨rH10, hrH10⟩ : ∃ r, b32 (oMul (le b) (le a) (le (zerB 32))) = r := ⟨_, rfl⟩
  have HQH10 := Lib.hid (fun w => MulAdd_sc b a (zerB 32) w HLA1.out HLA0.out (zerB_len 32))
  rw [hrH10] at HQH10
  have HLH10 := Lib.hid (show rH10.length = 32 by rw [← hrH10]; exact b32_len _)
  have HVH10 := Lib.hid (show le rH10 = (oMul (le b) (le a) (le (zerB 32))) by rw [← hrH10]; exact le_b32 _ (lt4L (oMul_lt _ _ _ )))
  clear hrH10
  obtain ⟨rH11, hrH11⟩ : ∃ r, b32 (oMul (le rH1) (le c) (le (zerB 32))) = r := ⟨_, rfl⟩
  have HQH11 := Lib.hid (fun w => MulAdd_sc rH1 c (zerB 32) w HLH1.out HLA2.out (zerB_len 32))
  rw [hrH11] at HQH11
  have HLH11 := Lib.hid (show rH11.length = 32 by rw [← hrH11]; exact b32_len _)
  have HVH11 := Lib.hid (show le rH11 = (oMul (le rH1) (le c) (le (zerB 32))) by rw [← hrH11]; exact le_b32 _ (lt4L (oMul_lt _ _ _ )))
  clear hrH11
  obtain ⟨rH12, hrH12⟩ : ∃ r, b32 (oMul (le b) (le c) (le (zerB 32))) = r := ⟨_, rfl⟩
  have HQH12 := Lib.hid (fun w => MulAdd_sc b c (zerB 32) w HLA1.out HLA2.out (zerB_len 32))
  rw [hrH12] at HQH12
  have HLH12 := Lib.hid (show rH12.length = 32 by rw [← hrH12]; exact b32_len _)
  have HVH12 := Lib.hid (show le rH12 = (oMul (le b) (le c) (le (zerB 32))) by rw [← hrH12]; exact le_b32 _ (lt4L (oMul_lt _ _ _ )))
  clear hrH12
  obtain ⟨rH13, hrH13⟩ : ∃ r, b32 (oMul (le a) (le rH12) (le (zerB 32))) = r := ⟨_, rfl⟩
  have HQH13 := Lib.hid (fun w => MulAdd_sc a rH12 (zerB 32) w HLA0.out HLH12.out (zerB_len 32))
  rw [hrH13] at HQH13
  have HLH13 := Lib.hid (show rH13.length = 32 by rw [← hrH13]; exact b32_len _)
  have HVH13 := Lib.hid (show le rH13 = (oMul (le a) (le rH12) (le (zerB 32))) by rw [← hrH13]; exact le_b32 _ (lt4L (oMul_lt _ _ _ )))
  clear hrH13
  obtain ⟨rH14, hrH14⟩ : ∃ r, b32 (oAdd (le b) (le c)) = r := ⟨_, rfl⟩
  have HQH14 := Lib.hid (fun w => Add_sc b c w HLA1.out HLA2.out)
  rw [hrH14] at HQH14
  have HLH14 := Lib.hid (show rH14.length = 32 by rw [← hrH14]; exact b32_len _)
  have HVH14 := Lib.hid (show le rH14 = (oAdd (le b) (le c)) by rw [← hrH14]; exact le_b32 _ (lt4L (oAdd_lt _ _ )))
  clear hrH14
  obtain ⟨rH15, hrH15⟩ : ∃ r, b32 (oMul (le a) (le rH14) (le (zerB 32))) = r := ⟨_, rfl⟩
  have HQH15 := Lib.hid (fun w => MulAdd_sc a rH14 (zerB 32) w HLA0.out HLH14.out (zerB_len 32))
  rw [hrH15] at HQH15
  have HLH15 := Lib.hid (show rH15.length = 32 by rw [← hrH15]; exact b32_len _)
  have HVH15 := Lib.hid (show le rH15 = (oMul (le a) (le rH14) (le (zerB 32))) by rw [← hrH15]; exact le_b32 _ (lt4L (oMul_lt _ _ _ )))
  clear hrH15
  obtain ⟨rH16, hrH16⟩ : ∃ r, b32 (oMul (le a) (le c) (le (zerB 32))) = r := ⟨_, rfl⟩
  have HQH16 := Lib.hid (fun w => MulAdd_sc a c (zerB 32) w HLA0.out HLA2.out (zerB_len 32))
  rw [hrH16] at HQH16
  have HLH16 := Lib.hid (show rH16.length = 32 by rw [← hrH16]; exact b32_len _)
  have HVH16 := Lib.hid (show le rH16 = (oMul (le a) (le c) (le (zerB 32))) by rw [← hrH16]; exact le_b32 _ (lt4L (oMul_lt _ _ _ )))
  clear hrH16
  obtain ⟨rH17, hrH17⟩ : ∃ r, b32 (oMul (le a) (le b) (le rH16)) = r := ⟨_, rfl⟩
  have HQH17 := Lib.hid (fun w => MulAdd_sc a b rH16 w HLA0.out HLA1.out HLH16.out)
  rw [hrH17] at HQH17
  have HLH17 := Lib.hid (show rH17.length = 32 by rw [← hrH17]; exact b32_len _)
  have HVH17 := Lib.hid (show le rH17 = (oMul (le a) (le b) (le rH16)) by rw [← hrH17]; exact le_b32 _ (lt4L (oMul_lt _ _ _ )))
  clear hrH17
  obtain ⟨rH18, hrH18⟩ : ∃ r, b32 (oMul (le a) (le (b32 1)) (le (zerB 32))) = r := ⟨_, rfl⟩
  have HQH18 := Lib.hid (fun w => MulAdd_sc a (b32 1) (zerB 32) w HLA0.out (b32_len 1) (zerB_len 32))
  rw [hrH18] at HQH18
  have HLH18 := Lib.hid (show rH18.length = 32 by rw [← hrH18]; exact b32_len _)
  have HVH18 := Lib.hid (show le rH18 = (oMul (le a) (le (b32 1)) (le (zerB 32))) by rw [← hrH18]; exact le_b32 _ (lt4L (oMul_lt _ _ _ )))
  clear hrH18
  obtain ⟨rH19, hrH19⟩ : ∃ r, b32 (le a % 13407807929942597099574024998205846127479365820592393377723561443721764030073546976801874298166903427690031858186486050853753882811946569946433649006084096 % 7237005577332262213973186563042994240857116359379907606001950938285454250989) = r := ⟨_, rfl⟩
  have HQH19 := Lib.hid (fun v w (h : Bys w v a) => Of_sc v a w h)
  rw [hrH19] at HQH19
  have HLH19 := Lib.hid (show rH19.length = 32 by rw [← hrH19]; exact b32_len _)
  have HVH19 := Lib.hid (show le rH19 = (le a % 13407807929942597099574024998205846127479365820592393377723561443721764030073546976801874298166903427690031858186486050853753882811946569946433649006084096 % 7237005577332262213973186563042994240857116359379907606001950938285454250989) by rw [← hrH19]; exact le_b32 _ (lt4L (Nat.mod_lt _ L_pos)))
  clear hrH19
  obtain ⟨rH20, hrH20⟩ : ∃ r, b32 (oMul (le a) (le b) (le c)) = r := ⟨_, rfl⟩
  have HQH20 := Lib.hid (fun w => MulAdd_sc a b c w HLA0.out HLA1.out HLA2.out)
  rw [hrH20] at HQH20
  have HLH20 := Lib.hid (show rH20.length = 32 by rw [← hrH20]; exact b32_len _)
  have HVH20 := Lib.hid (show le rH20 = (oMul (le a) (le b) (le c)) by rw [← hrH20]; exact le_b32 _ (lt4L (oMul_lt _ _ _ )))
  clear hrH20
  obtain ⟨rH21, hrH21⟩ : ∃ r, b32 (oAdd (le rH1) (le c)) = r := ⟨_, rfl⟩
  have HQH21 := Lib.hid (fun w => Add_sc rH1 c w HLH1.out HLA2.out)
  rw [hrH21] at HQH21
  have HLH21 := Lib.hid (show rH21.length = 32 by rw [← hrH21]; exact b32_len _)
  have HVH21 := Lib.hid (show le rH21 = (oAdd (le rH1) (le c)) by rw [← hrH21]; exact le_b32 _ (lt4L (oAdd_lt _ _ )))
  clear hrH21
  have HQH22 := Lib.hid (fun w => Good_sc rH1 w HLH1.out)
  rw [show decide (le rH1 < 7237005577332262213973186563042994240857116359379907606001950938285454250989) = true from (decide_eq_true (by rw [HVH1.out]; exact oMul_lt _ _ _))] at HQH22
  obtain ⟨rH23, hrH23⟩ : ∃ r, b32 (oAdd (le a) (le b)) = r := ⟨_, rfl⟩
  have HQH23 := Lib.hid (fun w => Add_sc a b w HLA0.out HLA1.out)
  rw [hrH23] at HQH23
  have HLH23 := Lib.hid (show rH23.length = 32 by rw [← hrH23]; exact b32_len _)
  have HVH23 := Lib.hid (show le rH23 = (oAdd (le a) (le b)) by rw [← hrH23]; exact le_b32 _ (lt4L (oAdd_lt _ _ )))
  clear hrH23
  have HQH24 := Lib.hid (fun w => Good_sc rH23 w HLH23.out)
  rw [show decide (le rH23 < 7237005577332262213973186563042994240857116359379907606001950938285454250989) = true from (decide_eq_true (by rw [HVH23.out]; exact oAdd_lt _ _))] at HQH24
  obtain ⟨rH25, hrH25⟩ : ∃ r, b32 (oNeg (le a)) = r := ⟨_, rfl⟩
  have HQH25 := Lib.hid (fun w => Neg_sc a w HLA0.out)
  rw [hrH25] at HQH25
  have HLH25 := Lib.hid (show rH25.length = 32 by rw [← hrH25]; exact b32_len _)
  have HVH25 := Lib.hid (show le rH25 = (oNeg (le a)) by rw [← hrH25]; exact le_b32 _ (lt4L (oNeg_lt _ )))
  clear hrH25
  have HQH26 := Lib.hid (fun w => Good_sc rH25 w HLH25.out)
  rw [show decide (le rH25 < 7237005577332262213973186563042994240857116359379907606001950938285454250989) = true from (decide_eq_true (by rw [HVH25.out]; exact oNeg_lt _))] at HQH26
  go_enter Try.func6, Try.ntmps6
  go_upto_region 1 with fail
  generalize hW1 : World.alloc _ _ = W1
  obtain ⟨N, hN⟩ : ∃ n, w.heap.size = n := ⟨_, rfl⟩
  have HX0 := Lib.hid (show BT W1 N 22 a by subst hW1; rw [← hN]; exact (alloc3_at w _ _ _).1)
  have HX1 := Lib.hid (show BT W1 (N + 1) 22 b by subst hW1; rw [← hN]; exact (alloc3_at w _ _ _).2.1)
  have HX2 := Lib.hid (show BT W1 (N + 1 + 1) 22 c by subst hW1; rw [← hN]; exact (alloc3_at w _ _ _).2.2)
  have HB := Lib.hid (show Below N w W1 by subst hW1; rw [← hN]; exact Below.alloc3 w _ _ _)
  have HN := Lib.hid hN
  rw [hN]
  clear hW1 hN
  go_wp2_with fail
  refine (awake8_any _).mono ?_
  rintro e wa ⟨rfl, hba⟩
  have HX0' := Lib.hid (HX0.out.ext hba)
  have HX1' := Lib.hid (HX1.out.ext hba)
  have HX2' := Lib.hid (HX2.out.ext hba)
  have HB' := Lib.hid (HB.out.trans (hba.mono (show N ≤ _ by have := HX0.out.lt; omega)))
  clear hba HB HX0 HX1 HX2
  have HB := HB'
  have HX0 := HX0'
  have HX1 := HX1'
  have HX2 := HX2'
  clear HB' HX0' HX1' HX2'
  go_wp2_with fail
  refine wp_region_whole [0, 1, 2] [⟨3, _, 39, (byteVals (zerB 32)).toArray, 7, 6, _, 39, 14, (byteVals a).toArray⟩, ⟨4, _, 39, (byteVals (zerB 32)).toArray, 8, 7, _, 39, 15, (byteVals b).toArray⟩, ⟨5, _, 39, (byteVals (zerB 32)).toArray, 9, 8, _, 39, 16, (byteVals c).toArray⟩] [8, 7, 6, 5, 4, 3] (by kernel_rfl) (by kernel_rfl) (List.forall_mem_cons.2 ⟨⟨⟨rfl, rfl, rfl, fun a w => run_allocM a _ rfl w⟩, rfl, rfl, rfl, rfl, sM a HLA0.out, oN (zerB 32) a (zerB_len 32) HLA0.out, byteVals_one _⟩, (List.forall_mem_cons.2 ⟨⟨⟨rfl, rfl, rfl, fun a w => run_allocM a _ rfl w⟩, rfl, rfl, rfl, rfl, sM b HLA1.out, oN (zerB 32) b (zerB_len 32) HLA1.out, byteVals_one _⟩, (List.forall_mem_cons.2 ⟨⟨⟨rfl, rfl, rfl, fun a w => run_allocM a _ rfl w⟩, rfl, rfl, rfl, rfl, sM c HLA2.out, oN (zerB 32) c (zerB_len 32) HLA2.out, byteVals_one _⟩, (List.forall_mem_nil _)⟩)⟩)⟩) rfl ?_
  simp only [List.foldl, List.eraseIdx_cons_succ, List.eraseIdx_cons_zero]
  refine upW_val (by rfl) (by rfl) (by rfl) (fun K hK => quiet_load_row _ _ rfl N rfl 22 _ (0, 0) _ HX0.out Try.underlying22 rfl (sBr a HLA0.out) (hK _ ?_))
  simp only [Act.put, List.setIfInBounds_toArray, List.set]
  refine upW_val (by rfl) (by rfl) (by rfl) (fun K hK => quiet_load_row _ _ rfl (N + 1) rfl 22 _ (0, 0) _ HX1.out Try.underlying22 rfl (sBr b HLA1.out) (hK _ ?_))
  simp only [Act.put, List.setIfInBounds_toArray, List.set]
  refine upW_val (by rfl) (by rfl) (by rfl) (fun K hK => quiet_load_row _ _ rfl (N + 1 + 1) rfl 22 _ (0, 0) _ HX2.out Try.underlying22 rfl (sBr c HLA2.out) (hK _ ?_))
  simp only [Act.put, List.setIfInBounds_toArray, List.set]
  refine upW_nil ⟨(List.forall_mem_cons.2 ⟨rfl, (List.forall_mem_cons.2 ⟨rfl, (List.forall_mem_cons.2 ⟨rfl, (List.forall_mem_nil _)⟩)⟩)⟩), fun M w3 hM hne hbs => ?_⟩
  have hm0 := hM _ (List.mem_cons_self ..)
  have hm1 := hM _ (List.mem_cons_of_mem _ (List.mem_cons_self ..))
  have hm2 := hM _ (List.mem_cons_of_mem _ (List.mem_cons_of_mem _ (List.mem_cons_self ..)))
  have hn01 : M 3 ≠ M 4 := hne _ (List.mem_cons_self ..) _ (List.mem_cons_of_mem _ (List.mem_cons_self ..)) (show (3 : Nat) ≠ 4 by decide)
  have hn02 : M 3 ≠ M 5 := hne _ (List.mem_cons_self ..) _ (List.mem_cons_of_mem _ (List.mem_cons_of_mem _ (List.mem_cons_self ..))) (show (3 : Nat) ≠ 5 by decide)
  have hn12 : M 4 ≠ M 5 := hne _ (List.mem_cons_of_mem _ (List.mem_cons_self ..)) _ (List.mem_cons_of_mem _ (List.mem_cons_of_mem _ (List.mem_cons_self ..))) (show (4 : Nat) ≠ 5 by decide)
  clear hM hne
  simp only [List.foldr, pS, Act.put, List.setIfInBounds_toArray, List.set]
  obtain ⟨M0, hM0⟩ : ∃ m, M 3 = m := ⟨_, rfl⟩
  have HM0 := Lib.hid (show BT w3 M0 39 a by rw [← hM0]; exact hm0.2)
  obtain ⟨M1, hM1⟩ : ∃ m, M 4 = m := ⟨_, rfl⟩
  have HM1 := Lib.hid (show BT w3 M1 39 b by rw [← hM1]; exact hm1.2)
  obtain ⟨M2, hM2⟩ : ∃ m, M 5 = m := ⟨_, rfl⟩
  have HM2 := Lib.hid (show BT w3 M2 39 c by rw [← hM2]; exact hm2.2)
  rw [hM0, hM1] at hn01
  rw [hM0, hM2] at hn02
  rw [hM1, hM2] at hn12
  rw [hM0, hM1, hM2]
  clear hm0 hM0 hm1 hM1 hm2 hM2
  have HX0' := Lib.hid (HX0.out.ext hbs)
  have HX1' := Lib.hid (HX1.out.ext hbs)
  have HX2' := Lib.hid (HX2.out.ext hbs)
  have HB' := Lib.hid (HB.out.trans (hbs.mono (show N ≤ _ by have := HB.out.size; have := HN.out; omega)))
  clear hbs HB HX0 HX1 HX2
  have HB := HB'
  have HX0 := HX0'
  have HX1 := HX1'
  have HX2 := HX2'
  clear HB' HX0' HX1' HX2'
  go_upto_region 4 with fail
  refine wp_region_seq 1 ?_
  simp only [List.take_succ_cons, List.take_zero, List.drop_succ_cons, List.drop_zero]
  refine upW_late (by rfl) (.agg (byteVals (zerB 32)).toArray) (fun w => run_zeroM _ _ rfl w) ?_
  simp only [Act.put, List.setIfInBounds_toArray, List.set]
  refine upW_nil (fun ws4 hbs4 => ?_)
  go_wp2_with (refine wpList_store_row rfl 39 _ _ rfl ws4.heap.size ((byteVals (zerB 32)).toArray) rfl rfl 39 _ (Go.heap_alloc_new _ _) (sM (zerB 32) (zerB_len 32)) (oN (zerB 32) (zerB 32) (zerB_len 32) (zerB_len 32)) (byteVals_one _) (Stop.out ?_))
  generalize hWS : World.setRow _ _ _ = W4
  obtain ⟨M4, hM⟩ : ∃ n, ws4.heap.size = n := ⟨_, rfl⟩
  have HM4 := Lib.hid (show BT W4 M4 39 (zerB 32) by subst hWS; rw [← hM]; exact setRow_heap _ _ _ _ _ _ (Go.heap_alloc_new _ _))
  have HX0' := Lib.hid (show BT W4 N 22 a by subst hWS; exact (HX0.out.ext hbs4).other ((setRow_other _ _ _ _ (Nat.ne_of_lt (HX0.out.ext hbs4).lt)).trans (Go.heap_alloc_old _ _ (HX0.out.ext hbs4).lt)))
  have HX1' := Lib.hid (show BT W4 (N + 1) 22 b by subst hWS; exact (HX1.out.ext hbs4).other ((setRow_other _ _ _ _ (Nat.ne_of_lt (HX1.out.ext hbs4).lt)).trans (Go.heap_alloc_old _ _ (HX1.out.ext hbs4).lt)))
  have HX2' := Lib.hid (show BT W4 (N + 1 + 1) 22 c by subst hWS; exact (HX2.out.ext hbs4).other ((setRow_other _ _ _ _ (Nat.ne_of_lt (HX2.out.ext hbs4).lt)).trans (Go.heap_alloc_old _ _ (HX2.out.ext hbs4).lt)))
  have HM0' := Lib.hid (show BT W4 M0 39 a by subst hWS; exact (HM0.out.ext hbs4).other ((setRow_other _ _ _ _ (Nat.ne_of_lt (HM0.out.ext hbs4).lt)).trans (Go.heap_alloc_old _ _ (HM0.out.ext hbs4).lt)))
  have HM1' := Lib.hid (show BT W4 M1 39 b by subst hWS; exact (HM1.out.ext hbs4).other ((setRow_other _ _ _ _ (Nat.ne_of_lt (HM1.out.ext hbs4).lt)).trans (Go.heap_alloc_old _ _ (HM1.out.ext hbs4).lt)))
  have HM2' := Lib.hid (show BT W4 M2 39 c by subst hWS; exact (HM2.out.ext hbs4).other ((setRow_other _ _ _ _ (Nat.ne_of_lt (HM2.out.ext hbs4).lt)).trans (Go.heap_alloc_old _ _ (HM2.out.ext hbs4).lt)))
  have HB' := Lib.hid (show Below N w W4 by subst hWS; exact Below.setRow ((HB.out.trans (hbs4.mono (show N ≤ _ by have := HB.out.size; have := HN.out; omega))).alloc (by have := hbs4.size; have := HB.out.size; have := HN.out; omega) _) (by have := hbs4.size; have := HB.out.size; have := HN.out; omega) _)
  rw [hM]
  clear hWS hM hbs4 HB HX0 HX1 HX2 HM0 HM1 HM2
  have HB := HB'
  have HX0 := HX0'
  have HX1 := HX1'
  have HX2 := HX2'
  have HM0 := HM0'
  have HM1 := HM1'
  have HM2 := HM2'
  clear HB' HX0' HX1' HX2' HM0' HM1' HM2'
  refine ⟨?_⟩
  go_upto_region 5 with fail
  refine wp_region_seq 4 ?_
  simp only [List.take_succ_cons, List.take_zero, List.drop_succ_cons, List.drop_zero]
  refine upW_val (by rfl) (by rfl) (by rfl) (fun K hK => quiet_load_row _ _ rfl M0 rfl 39 _ (0, 0) _ HM0.out Try.underlying39 rfl (sM a HLA0.out) (hK _ ?_))
  simp only [Act.put, List.setIfInBounds_toArray, List.set]
  refine upW_val (by rfl) (by rfl) (by rfl) (fun K hK => quiet_load_row _ _ rfl M1 rfl 39 _ (0, 0) _ HM1.out Try.underlying39 rfl (sM b HLA1.out) (hK _ ?_))
  simp only [Act.put, List.setIfInBounds_toArray, List.set]
  refine upW_val (by rfl) (by rfl) (by rfl) (fun K hK => quiet_load_row _ _ rfl M4 rfl 39 _ (0, 0) _ HM4.out Try.underlying39 rfl (sM (zerB 32) (zerB_len 32)) (hK _ ?_))
  simp only [Act.put, List.setIfInBounds_toArray, List.set]
  refine upW_call (by rfl) (by rfl) (.agg (byteVals rH1).toArray) _ rfl (by simp) (fun p => ?_) ?_
  · go_big_quiet_op
    exact ⟨_, fun q => Calls.ext_of (HQH1.out q.x), rfl⟩
  simp only [Act.put, List.setIfInBounds_toArray, List.set]
  refine upW_nil (fun ws5 hbs5 => ?_)
  go_wp2_with (refine wpList_store_row rfl 39 _ _ rfl ws5.heap.size ((byteVals rH1).toArray) rfl rfl 39 _ (Go.heap_alloc_new _ _) (sM rH1 HLH1.out) (oN (zerB 32) rH1 (zerB_len 32) HLH1.out) (byteVals_one _) (Stop.out ?_))
  generalize hWS : World.setRow _ _ _ = W5
  obtain ⟨M5, hM⟩ : ∃ n, ws5.heap.size = n := ⟨_, rfl⟩
  have HM5 := Lib.hid (show BT W5 M5 39 rH1 by subst hWS; rw [← hM]; exact setRow_heap _ _ _ _ _ _ (Go.heap_alloc_new _ _))
  have HX0' := Lib.hid (show BT W5 N 22 a by subst hWS; exact (HX0.out.ext hbs5).other ((setRow_other _ _ _ _ (Nat.ne_of_lt (HX0.out.ext hbs5).lt)).trans (Go.heap_alloc_old _ _ (HX0.out.ext hbs5).lt)))
  have HX1' := Lib.hid (show BT W5 (N + 1) 22 b by subst hWS; exact (HX1.out.ext hbs5).other ((setRow_other _ _ _ _ (Nat.ne_of_lt (HX1.out.ext hbs5).lt)).trans (Go.heap_alloc_old _ _ (HX1.out.ext hbs5).lt)))
  have HX2' := Lib.hid (show BT W5 (N + 1 + 1) 22 c by subst hWS; exact (HX2.out.ext hbs5).other ((setRow_other _ _ _ _ (Nat.ne_of_lt (HX2.out.ext hbs5).lt)).trans (Go.heap_alloc_old _ _ (HX2.out.ext hbs5).lt)))
  have HM0' := Lib.hid (show BT W5 M0 39 a by subst hWS; exact (HM0.out.ext hbs5).other ((setRow_other _ _ _ _ (Nat.ne_of_lt (HM0.out.ext hbs5).lt)).trans (Go.heap_alloc_old _ _ (HM0.out.ext hbs5).lt)))
  have HM1' := Lib.hid (show BT W5 M1 39 b by subst hWS; exact (HM1.out.ext hbs5).other ((setRow_other _ _ _ _ (Nat.ne_of_lt (HM1.out.ext hbs5).lt)).trans (Go.heap_alloc_old _ _ (HM1.out.ext hbs5).lt)))
  have HM2' := Lib.hid (show BT W5 M2 39 c by subst hWS; exact (HM2.out.ext hbs5).other ((setRow_other _ _ _ _ (Nat.ne_of_lt (HM2.out.ext hbs5).lt)).trans (Go.heap_alloc_old _ _ (HM2.out.ext hbs5).lt)))
  have HM4' := Lib.hid (show BT W5 M4 39 (zerB 32) by subst hWS; exact (HM4.out.ext hbs5).other ((setRow_other _ _ _ _ (Nat.ne_of_lt (HM4.out.ext hbs5).lt)).trans (Go.heap_alloc_old _ _ (HM4.out.ext hbs5).lt)))
  have HB' := Lib.hid (show Below N w W5 by subst hWS; exact Below.setRow ((HB.out.trans (hbs5.mono (show N ≤ _ by have := HB.out.size; have := HN.out; omega))).alloc (by have := hbs5.size; have := HB.out.size; have := HN.out; omega) _) (by have := hbs5.size; have := HB.out.size; have := HN.out; omega) _)
  rw [hM]
  clear hWS hM hbs5 HB HX0 HX1 HX2 HM0 HM1 HM2 HM4
  have HB := HB'
  have HX0 := HX0'
  have HX1 := HX1'
  have HX2 := HX2'
  have HM0 := HM0'
  have HM1 := HM1'
  have HM2 := HM2'
  have HM4 := HM4'
  clear HB' HX0' HX1' HX2' HM0' HM1' HM2' HM4'
  refine ⟨?_⟩
  go_upto_region 6 with fail
  refine wp_region_upT 100 _ (by kernel_rfl) (by kernel_rfl) rfl (by kernel_rfl) (fun _ _ dst _ _ h => by cases dst <;> exact h) ?_
  simp only [List.append, List.take_succ_cons, List.take_zero, List.drop_succ_cons, List.drop_zero]
  refine upW_val (by rfl) (by rfl) (by rfl) (fun K hK => quiet_load_row _ _ rfl M0 rfl 39 _ (0, 0) _ HM0.out Try.underlying39 rfl (sM a HLA0.out) (hK _ ?_))
  simp only [Act.put, List.setIfInBounds_toArray, List.set]
  refine upW_val (by rfl) (by rfl) (by rfl) (fun K hK => quiet_load_row _ _ rfl M1 rfl 39 _ (0, 0) _ HM1.out Try.underlying39 rfl (sM b HLA1.out) (hK _ ?_))
  simp only [Act.put, List.setIfInBounds_toArray, List.set]
  refine upW_val (by rfl) (by rfl) (by rfl) (fun K hK => quiet_load_row _ _ rfl M2 rfl 39 _ (0, 0) _ HM2.out Try.underlying39 rfl (sM c HLA2.out) (hK _ ?_))
  simp only [Act.put, List.setIfInBounds_toArray, List.set]
  refine upW_call (by rfl) (by rfl) (.agg (byteVals rH2).toArray) _ rfl (by simp) (fun p => ?_) ?_
  · go_big_quiet_op
    exact ⟨_, fun q => Calls.ext_of (HQH2.out q.x), rfl⟩
  simp only [Act.put, List.setIfInBounds_toArray, List.set]
  refine upW_call (by rfl) (by rfl) (.agg (byteVals rH3).toArray) _ rfl (by simp) (fun p => ?_) ?_
  · go_big_quiet_op
    exact ⟨_, fun q => Calls.ext_of (HQH3.out q.x), rfl⟩
  simp only [Act.put, List.setIfInBounds_toArray, List.set]
  refine upW_val (by rfl) (by rfl) (by rfl) (fun K hK => quiet_load_row _ _ rfl M0 rfl 39 _ (0, 0) _ HM0.out Try.underlying39 rfl (sM a HLA0.out) (hK _ ?_))
  simp only [Act.put, List.setIfInBounds_toArray, List.set]
  refine upW_val (by rfl) (by rfl) (by rfl) (fun K hK => quiet_load_row _ _ rfl M1 rfl 39 _ (0, 0) _ HM1.out Try.underlying39 rfl (sM b HLA1.out) (hK _ ?_))
  simp only [Act.put, List.setIfInBounds_toArray, List.set]
  refine upW_call (by rfl) (by rfl) (.agg (byteVals rH4).toArray) _ rfl (by simp) (fun p => ?_) ?_
  · go_big_quiet_op
    exact ⟨_, fun q => Calls.ext_of (HQH4.out q.x), rfl⟩
  simp only [Act.put, List.setIfInBounds_toArray, List.set]
  refine upW_val (by rfl) (by rfl) (by rfl) (fun K hK => quiet_load_row _ _ rfl M2 rfl 39 _ (0, 0) _ HM2.out Try.underlying39 rfl (sM c HLA2.out) (hK _ ?_))
  simp only [Act.put, List.setIfInBounds_toArray, List.set]
  refine upW_call (by rfl) (by rfl) (.agg (byteVals rH5).toArray) _ rfl (by simp) (fun p => ?_) ?_
  · go_big_quiet_op
    exact ⟨_, fun q => Calls.ext_of (HQH5.out q.x), rfl⟩
  simp only [Act.put, List.setIfInBounds_toArray, List.set]
  refine upW_late (by rfl) (.bool true) (fun w => run_eqN rH3 rH5 HLH3.out HLH5.out _ _ _ _ 39 rfl Try.underlying39 (by kernel_rfl) rfl rfl true (decide_eq_true (eq_le32 HLH3.out HLH5.out (by simp only [HVH2.out, HVH3.out, HVH4.out, HVH5.out]; exact (oAdd_assoc _ _ _)))) w) ?_
  simp only [Act.put, List.setIfInBounds_toArray, List.set]
  refine upW_val (by rfl) (by rfl) (by rfl) ?_
  intro K hK
  go_big_quiet_op
  refine hK _ ?_
  refine upW_val (by rfl) (by rfl) (by rfl) (fun K hK => quiet_load_row _ _ rfl M0 rfl 39 _ (0, 0) _ HM0.out Try.underlying39 rfl (sM a HLA0.out) (hK _ ?_))
  simp only [Act.put, List.setIfInBounds_toArray, List.set]
  refine upW_val (by rfl) (by rfl) (by rfl) (fun K hK => quiet_load_row _ _ rfl M1 rfl 39 _ (0, 0) _ HM1.out Try.underlying39 rfl (sM b HLA1.out) (hK _ ?_))
  simp only [Act.put, List.setIfInBounds_toArray, List.set]
  refine upW_call (by rfl) (by rfl) (.agg (byteVals rH6).toArray) _ rfl (by simp) (fun p => ?_) ?_
  · go_big_quiet_op
    exact ⟨_, fun q => Calls.ext_of (HQH6.out q.x), rfl⟩
  simp only [Act.put, List.setIfInBounds_toArray, List.set]
  refine upW_val (by rfl) (by rfl) (by rfl) (fun K hK => quiet_load_row _ _ rfl M1 rfl 39 _ (0, 0) _ HM1.out Try.underlying39 rfl (sM b HLA1.out) (hK _ ?_))
  simp only [Act.put, List.setIfInBounds_toArray, List.set]
  refine upW_val (by rfl) (by rfl) (by rfl) (fun K hK => quiet_load_row _ _ rfl M0 rfl 39 _ (0, 0) _ HM0.out Try.underlying39 rfl (sM a HLA0.out) (hK _ ?_))
  simp only [Act.put, List.setIfInBounds_toArray, List.set]
  refine upW_call (by rfl) (by rfl) (.agg (byteVals rH7).toArray) _ rfl (by simp) (fun p => ?_) ?_
  · go_big_quiet_op
    exact ⟨_, fun q => Calls.ext_of (HQH7.out q.x), rfl⟩
  simp only [Act.put, List.setIfInBounds_toArray, List.set]
  refine upW_late (by rfl) (.bool true) (fun w => run_eqN rH6 rH7 HLH6.out HLH7.out _ _ _ _ 39 rfl Try.underlying39 (by kernel_rfl) rfl rfl true (decide_eq_true (eq_le32 HLH6.out HLH7.out (by simp only [HVH6.out, HVH7.out]; exact (oAdd_comm _ _)))) w) ?_
  simp only [Act.put, List.setIfInBounds_toArray, List.set]
  refine upW_val (by rfl) (by rfl) (by rfl) ?_
  intro K hK
  go_big_quiet_op
  refine hK _ ?_
  refine upW_val (by rfl) (by rfl) (by rfl) ?_
  intro K hK
  go_big_quiet_op
  refine hK _ ?_
  refine upW_val (by rfl) (by rfl) (by rfl) (fun K hK => quiet_load_row _ _ rfl M0 rfl 39 _ (0, 0) _ HM0.out Try.underlying39 rfl (sM a HLA0.out) (hK _ ?_))
  simp only [Act.put, List.setIfInBounds_toArray, List.set]
  refine upW_val (by rfl) (by rfl) (by rfl) (fun K hK => quiet_load_row _ _ rfl M0 rfl 39 _ (0, 0) _ HM0.out Try.underlying39 rfl (sM a HLA0.out) (hK _ ?_))
  simp only [Act.put, List.setIfInBounds_toArray, List.set]
  refine upW_call (by rfl) (by rfl) (.agg (byteVals rH8).toArray) _ rfl (by simp) (fun p => ?_) ?_
  · go_big_quiet_op
    exact ⟨_, fun q => Calls.ext_of (HQH8.out q.x), rfl⟩
  simp only [Act.put, List.setIfInBounds_toArray, List.set]
  refine upW_call (by rfl) (by rfl) (.agg (byteVals rH9).toArray) _ rfl (by simp) (fun p => ?_) ?_
  · go_big_quiet_op
    exact ⟨_, fun q => Calls.ext_of (HQH9.out q.x), rfl⟩
  simp only [Act.put, List.setIfInBounds_toArray, List.set]
  refine upW_val (by rfl) (by rfl) (by rfl) (fun K hK => quiet_load_row _ _ rfl M4 rfl 39 _ (0, 0) _ HM4.out Try.underlying39 rfl (sM (zerB 32) (zerB_len 32)) (hK _ ?_))
  simp only [Act.put, List.setIfInBounds_toArray, List.set]
  refine upW_late (by rfl) (.bool true) (fun w => run_eqN rH9 (zerB 32) HLH9.out (zerB_len 32) _ _ _ _ 39 rfl Try.underlying39 (by kernel_rfl) rfl rfl true (decide_eq_true (eq_le32 HLH9.out (zerB_len 32) (by simp only [HVH8.out, HVH9.out, le_zer]; exact (oAdd_neg _)))) w) ?_
  simp only [Act.put, List.setIfInBounds_toArray, List.set]
  refine upW_val (by rfl) (by rfl) (by rfl) ?_
  intro K hK
  go_big_quiet_op
  refine hK _ ?_
  refine upW_val (by rfl) (by rfl) (by rfl) ?_
  intro K hK
  go_big_quiet_op
  refine hK _ ?_
  refine upW_val (by rfl) (by rfl) (by rfl) (fun K hK => quiet_load_row _ _ rfl M5 rfl 39 _ (0, 0) _ HM5.out Try.underlying39 rfl (sM rH1 HLH1.out) (hK _ ?_))
  simp only [Act.put, List.setIfInBounds_toArray, List.set]
  refine upW_val (by rfl) (by rfl) (by rfl) (fun K hK => quiet_load_row _ _ rfl M1 rfl 39 _ (0, 0) _ HM1.out Try.underlying39 rfl (sM b HLA1.out) (hK _ ?_))
  simp only [Act.put, List.setIfInBounds_toArray, List.set]
  refine upW_val (by rfl) (by rfl) (by rfl) (fun K hK => quiet_load_row _ _ rfl M0 rfl 39 _ (0, 0) _ HM0.out Try.underlying39 rfl (sM a HLA0.out) (hK _ ?_))
  simp only [Act.put, List.setIfInBounds_toArray, List.set]
  refine upW_val (by rfl) (by rfl) (by rfl) (fun K hK => quiet_load_row _ _ rfl M4 rfl 39 _ (0, 0) _ HM4.out Try.underlying39 rfl (sM (zerB 32) (zerB_len 32)) (hK _ ?_))
  simp only [Act.put, List.setIfInBounds_toArray, List.set]
  refine upW_call (by rfl) (by rfl) (.agg (byteVals rH10).toArray) _ rfl (by simp) (fun p => ?_) ?_
  · go_big_quiet_op
    exact ⟨_, fun q => Calls.ext_of (HQH10.out q.x), rfl⟩
  simp only [Act.put, List.setIfInBounds_toArray, List.set]
  refine upW_late (by rfl) (.bool true) (fun w => run_eqN rH1 rH10 HLH1.out HLH10.out _ _ _ _ 39 rfl Try.underlying39 (by kernel_rfl) rfl rfl true (decide_eq_true (eq_le32 HLH1.out HLH10.out (by simp only [le_zer, HVH1.out, HVH10.out]; exact (oMul_comm _ _ _)))) w) ?_
  simp only [Act.put, List.setIfInBounds_toArray, List.set]
  refine upW_val (by rfl) (by rfl) (by rfl) ?_
  intro K hK
  go_big_quiet_op
  refine hK _ ?_
  refine upW_val (by rfl) (by rfl) (by rfl) ?_
  intro K hK
  go_big_quiet_op
  refine hK _ ?_
  refine upW_val (by rfl) (by rfl) (by rfl) (fun K hK => quiet_load_row _ _ rfl M5 rfl 39 _ (0, 0) _ HM5.out Try.underlying39 rfl (sM rH1 HLH1.out) (hK _ ?_))
  simp only [Act.put, List.setIfInBounds_toArray, List.set]
  refine upW_val (by rfl) (by rfl) (by rfl) (fun K hK => quiet_load_row _ _ rfl M2 rfl 39 _ (0, 0) _ HM2.out Try.underlying39 rfl (sM c HLA2.out) (hK _ ?_))
  simp only [Act.put, List.setIfInBounds_toArray, List.set]
  refine upW_val (by rfl) (by rfl) (by rfl) (fun K hK => quiet_load_row _ _ rfl M4 rfl 39 _ (0, 0) _ HM4.out Try.underlying39 rfl (sM (zerB 32) (zerB_len 32)) (hK _ ?_))
  simp only [Act.put, List.setIfInBounds_toArray, List.set]
  refine upW_call (by rfl) (by rfl) (.agg (byteVals rH11).toArray) _ rfl (by simp) (fun p => ?_) ?_
  · go_big_quiet_op
    exact ⟨_, fun q => Calls.ext_of (HQH11.out q.x), rfl⟩
  simp only [Act.put, List.setIfInBounds_toArray, List.set]
  refine upW_val (by rfl) (by rfl) (by rfl) (fun K hK => quiet_load_row _ _ rfl M0 rfl 39 _ (0, 0) _ HM0.out Try.underlying39 rfl (sM a HLA0.out) (hK _ ?_))
  simp only [Act.put, List.setIfInBounds_toArray, List.set]
  refine upW_val (by rfl) (by rfl) (by rfl) (fun K hK => quiet_load_row _ _ rfl M1 rfl 39 _ (0, 0) _ HM1.out Try.underlying39 rfl (sM b HLA1.out) (hK _ ?_))
  simp only [Act.put, List.setIfInBounds_toArray, List.set]
  refine upW_val (by rfl) (by rfl) (by rfl) (fun K hK => quiet_load_row _ _ rfl M2 rfl 39 _ (0, 0) _ HM2.out Try.underlying39 rfl (sM c HLA2.out) (hK _ ?_))
  simp only [Act.put, List.setIfInBounds_toArray, List.set]
  refine upW_val (by rfl) (by rfl) (by rfl) (fun K hK => quiet_load_row _ _ rfl M4 rfl 39 _ (0, 0) _ HM4.out Try.underlying39 rfl (sM (zerB 32) (zerB_len 32)) (hK _ ?_))
  simp only [Act.put, List.setIfInBounds_toArray, List.set]
  refine upW_call (by rfl) (by rfl) (.agg (byteVals rH12).toArray) _ rfl (by simp) (fun p => ?_) ?_
  · go_big_quiet_op
    exact ⟨_, fun q => Calls.ext_of (HQH12.out q.x), rfl⟩
  simp only [Act.put, List.setIfInBounds_toArray, List.set]
  refine upW_val (by rfl) (by rfl) (by rfl) (fun K hK => quiet_load_row _ _ rfl M4 rfl 39 _ (0, 0) _ HM4.out Try.underlying39 rfl (sM (zerB 32) (zerB_len 32)) (hK _ ?_))
  simp only [Act.put, List.setIfInBounds_toArray, List.set]
  refine upW_call (by rfl) (by rfl) (.agg (byteVals rH13).toArray) _ rfl (by simp) (fun p => ?_) ?_
  · go_big_quiet_op
    exact ⟨_, fun q => Calls.ext_of (HQH13.out q.x), rfl⟩
  simp only [Act.put, List.setIfInBounds_toArray, List.set]
  refine upW_late (by rfl) (.bool true) (fun w => run_eqN rH11 rH13 HLH11.out HLH13.out _ _ _ _ 39 rfl Try.underlying39 (by kernel_rfl) rfl rfl true (decide_eq_true (eq_le32 HLH11.out HLH13.out (by simp only [le_zer, HVH1.out, HVH11.out, HVH12.out, HVH13.out]; exact (oMul_assoc _ _ _)))) w) ?_
  simp only [Act.put, List.setIfInBounds_toArray, List.set]
  refine upW_val (by rfl) (by rfl) (by rfl) ?_
  intro K hK
  go_big_quiet_op
  refine hK _ ?_
  refine upW_val (by rfl) (by rfl) (by rfl) ?_
  intro K hK
  go_big_quiet_op
  refine hK _ ?_
  refine upW_val (by rfl) (by rfl) (by rfl) (fun K hK => quiet_load_row _ _ rfl M0 rfl 39 _ (0, 0) _ HM0.out Try.underlying39 rfl (sM a HLA0.out) (hK _ ?_))
  simp only [Act.put, List.setIfInBounds_toArray, List.set]
  refine upW_val (by rfl) (by rfl) (by rfl) (fun K hK => quiet_load_row _ _ rfl M1 rfl 39 _ (0, 0) _ HM1.out Try.underlying39 rfl (sM b HLA1.out) (hK _ ?_))
  simp only [Act.put, List.setIfInBounds_toArray, List.set]
  refine upW_val (by rfl) (by rfl) (by rfl) (fun K hK => quiet_load_row _ _ rfl M2 rfl 39 _ (0, 0) _ HM2.out Try.underlying39 rfl (sM c HLA2.out) (hK _ ?_))
  simp only [Act.put, List.setIfInBounds_toArray, List.set]
  refine upW_call (by rfl) (by rfl) (.agg (byteVals rH14).toArray) _ rfl (by simp) (fun p => ?_) ?_
  · go_big_quiet_op
    exact ⟨_, fun q => Calls.ext_of (HQH14.out q.x), rfl⟩
  simp only [Act.put, List.setIfInBounds_toArray, List.set]
  refine upW_val (by rfl) (by rfl) (by rfl) (fun K hK => quiet_load_row _ _ rfl M4 rfl 39 _ (0, 0) _ HM4.out Try.underlying39 rfl (sM (zerB 32) (zerB_len 32)) (hK _ ?_))
  simp only [Act.put, List.setIfInBounds_toArray, List.set]
  refine upW_call (by rfl) (by rfl) (.agg (byteVals rH15).toArray) _ rfl (by simp) (fun p => ?_) ?_
  · go_big_quiet_op
    exact ⟨_, fun q => Calls.ext_of (HQH15.out q.x), rfl⟩
  simp only [Act.put, List.setIfInBounds_toArray, List.set]
  refine upW_val (by rfl) (by rfl) (by rfl) (fun K hK => quiet_load_row _ _ rfl M0 rfl 39 _ (0, 0) _ HM0.out Try.underlying39 rfl (sM a HLA0.out) (hK _ ?_))
  simp only [Act.put, List.setIfInBounds_toArray, List.set]
  refine upW_val (by rfl) (by rfl) (by rfl) (fun K hK => quiet_load_row _ _ rfl M1 rfl 39 _ (0, 0) _ HM1.out Try.underlying39 rfl (sM b HLA1.out) (hK _ ?_))
  simp only [Act.put, List.setIfInBounds_toArray, List.set]
  refine upW_val (by rfl) (by rfl) (by rfl) (fun K hK => quiet_load_row _ _ rfl M0 rfl 39 _ (0, 0) _ HM0.out Try.underlying39 rfl (sM a HLA0.out) (hK _ ?_))
  simp only [Act.put, List.setIfInBounds_toArray, List.set]
  refine upW_val (by rfl) (by rfl) (by rfl) (fun K hK => quiet_load_row _ _ rfl M2 rfl 39 _ (0, 0) _ HM2.out Try.underlying39 rfl (sM c HLA2.out) (hK _ ?_))
  simp only [Act.put, List.setIfInBounds_toArray, List.set]
  refine upW_val (by rfl) (by rfl) (by rfl) (fun K hK => quiet_load_row _ _ rfl M4 rfl 39 _ (0, 0) _ HM4.out Try.underlying39 rfl (sM (zerB 32) (zerB_len 32)) (hK _ ?_))
  simp only [Act.put, List.setIfInBounds_toArray, List.set]
  refine upW_call (by rfl) (by rfl) (.agg (byteVals rH16).toArray) _ rfl (by simp) (fun p => ?_) ?_
  · go_big_quiet_op
    exact ⟨_, fun q => Calls.ext_of (HQH16.out q.x), rfl⟩
  simp only [Act.put, List.setIfInBounds_toArray, List.set]
  refine upW_call (by rfl) (by rfl) (.agg (byteVals rH17).toArray) _ rfl (by simp) (fun p => ?_) ?_
  · go_big_quiet_op
    exact ⟨_, fun q => Calls.ext_of (HQH17.out q.x), rfl⟩
  simp only [Act.put, List.setIfInBounds_toArray, List.set]
  refine upW_late (by rfl) (.bool true) (fun w => run_eqN rH15 rH17 HLH15.out HLH17.out _ _ _ _ 39 rfl Try.underlying39 (by kernel_rfl) rfl rfl true (decide_eq_true (eq_le32 HLH15.out HLH17.out (by simp only [HVH14.out, le_zer, HVH15.out, HVH16.out, HVH17.out]; exact (oMul_add _ _ _)))) w) ?_
  simp only [Act.put, List.setIfInBounds_toArray, List.set]
  refine upW_val (by rfl) (by rfl) (by rfl) ?_
  intro K hK
  go_big_quiet_op
  refine hK _ ?_
  refine upW_val (by rfl) (by rfl) (by rfl) ?_
  intro K hK
  go_big_quiet_op
  refine hK _ ?_
  refine upW_val (by rfl) (by rfl) (by rfl) (fun K hK => quiet_load_row _ _ rfl M0 rfl 39 _ (0, 0) _ HM0.out Try.underlying39 rfl (sM a HLA0.out) (hK _ ?_))
  simp only [Act.put, List.setIfInBounds_toArray, List.set]
  refine upW_late (by rfl) (.agg (byteVals (b32 1)).toArray) (fun w => run_byteM1 _ _ rfl w) ?_
  simp only [Act.put, List.setIfInBounds_toArray, List.set]
  refine upW_val (by rfl) (by rfl) (by rfl) (fun K hK => quiet_load_row _ _ rfl M4 rfl 39 _ (0, 0) _ HM4.out Try.underlying39 rfl (sM (zerB 32) (zerB_len 32)) (hK _ ?_))
  simp only [Act.put, List.setIfInBounds_toArray, List.set]
  refine upW_call (by rfl) (by rfl) (.agg (byteVals rH18).toArray) _ rfl (by simp) (fun p => ?_) ?_
  · go_big_quiet_op
    exact ⟨_, fun q => Calls.ext_of (HQH18.out q.x), rfl⟩
  simp only [Act.put, List.setIfInBounds_toArray, List.set]
  refine upW_late (by rfl) (.slice (some ⟨N, 0, none⟩) 32 32) (fun _ => by kernel_rfl) ?_
  simp only [Act.put, List.setIfInBounds_toArray, List.set]
  refine upW_call (by rfl) (by rfl) (.agg (byteVals rH19).toArray) _ rfl (by simp) (fun p => ?_) ?_
  · go_big_quiet_op
    exact ⟨_, fun q => Calls.ext_of (HQH19.out _ q.x (sl32 a HLA0.out (HX0.out.ext (p.h.trans (q.h.mono p.h.size))))), rfl⟩
  simp only [Act.put, List.setIfInBounds_toArray, List.set]
  refine upW_late (by rfl) (.bool true) (fun w => run_eqN rH18 rH19 HLH18.out HLH19.out _ _ _ _ 39 rfl Try.underlying39 (by kernel_rfl) rfl rfl true (decide_eq_true (eq_le32 HLH18.out HLH19.out (by simp only [(le_b32 1 (by decide)), le_zer, HVH18.out, HVH19.out]; exact ((oMul_one _).trans (of32 a HLA0.out).symm)))) w) ?_
  simp only [Act.put, List.setIfInBounds_toArray, List.set]
  refine upW_val (by rfl) (by rfl) (by rfl) ?_
  intro K hK
  go_big_quiet_op
  refine hK _ ?_
  refine upW_val (by rfl) (by rfl) (by rfl) ?_
  intro K hK
  go_big_quiet_op
  refine hK _ ?_
  refine upW_val (by rfl) (by rfl) (by rfl) (fun K hK => quiet_load_row _ _ rfl M0 rfl 39 _ (0, 0) _ HM0.out Try.underlying39 rfl (sM a HLA0.out) (hK _ ?_))
  simp only [Act.put, List.setIfInBounds_toArray, List.set]
  refine upW_val (by rfl) (by rfl) (by rfl) (fun K hK => quiet_load_row _ _ rfl M1 rfl 39 _ (0, 0) _ HM1.out Try.underlying39 rfl (sM b HLA1.out) (hK _ ?_))
  simp only [Act.put, List.setIfInBounds_toArray, List.set]
  refine upW_val (by rfl) (by rfl) (by rfl) (fun K hK => quiet_load_row _ _ rfl M2 rfl 39 _ (0, 0) _ HM2.out Try.underlying39 rfl (sM c HLA2.out) (hK _ ?_))
  simp only [Act.put, List.setIfInBounds_toArray, List.set]
  refine upW_call (by rfl) (by rfl) (.agg (byteVals rH20).toArray) _ rfl (by simp) (fun p => ?_) ?_
  · go_big_quiet_op
    exact ⟨_, fun q => Calls.ext_of (HQH20.out q.x), rfl⟩
  simp only [Act.put, List.setIfInBounds_toArray, List.set]
  refine upW_val (by rfl) (by rfl) (by rfl) (fun K hK => quiet_load_row _ _ rfl M5 rfl 39 _ (0, 0) _ HM5.out Try.underlying39 rfl (sM rH1 HLH1.out) (hK _ ?_))
  simp only [Act.put, List.setIfInBounds_toArray, List.set]
  refine upW_val (by rfl) (by rfl) (by rfl) (fun K hK => quiet_load_row _ _ rfl M2 rfl 39 _ (0, 0) _ HM2.out Try.underlying39 rfl (sM c HLA2.out) (hK _ ?_))
  simp only [Act.put, List.setIfInBounds_toArray, List.set]
  refine upW_call (by rfl) (by rfl) (.agg (byteVals rH21).toArray) _ rfl (by simp) (fun p => ?_) ?_
  · go_big_quiet_op
    exact ⟨_, fun q => Calls.ext_of (HQH21.out q.x), rfl⟩
  simp only [Act.put, List.setIfInBounds_toArray, List.set]
  refine upW_late (by rfl) (.bool true) (fun w => run_eqN rH20 rH21 HLH20.out HLH21.out _ _ _ _ 39 rfl Try.underlying39 (by kernel_rfl) rfl rfl true (decide_eq_true (eq_le32 HLH20.out HLH21.out (by simp only [HVH20.out, le_zer, HVH1.out, HVH21.out]; exact (oMul_plus _ _ _)))) w) ?_
  simp only [Act.put, List.setIfInBounds_toArray, List.set]
  refine upW_val (by rfl) (by rfl) (by rfl) ?_
  intro K hK
  go_big_quiet_op
  refine hK _ ?_
  refine upW_val (by rfl) (by rfl) (by rfl) ?_
  intro K hK
  go_big_quiet_op
  refine hK _ ?_
  refine upW_val (by rfl) (by rfl) (by rfl) (fun K hK => quiet_load_row _ _ rfl M5 rfl 39 _ (0, 0) _ HM5.out Try.underlying39 rfl (sM rH1 HLH1.out) (hK _ ?_))
  simp only [Act.put, List.setIfInBounds_toArray, List.set]
  refine upW_call (by rfl) (by rfl) (.bool true) _ rfl (by simp) (fun p => ?_) ?_
  · go_big_quiet_op
    exact ⟨_, fun q => Calls.ext_of (HQH22.out q.x), rfl⟩
  simp only [Act.put, List.setIfInBounds_toArray, List.set]
  refine upW_val (by rfl) (by rfl) (by rfl) ?_
  intro K hK
  go_big_quiet_op
  refine hK _ ?_
  refine upW_val (by rfl) (by rfl) (by rfl) ?_
  intro K hK
  go_big_quiet_op
  refine hK _ ?_
  refine upW_val (by rfl) (by rfl) (by rfl) (fun K hK => quiet_load_row _ _ rfl M0 rfl 39 _ (0, 0) _ HM0.out Try.underlying39 rfl (sM a HLA0.out) (hK _ ?_))
  simp only [Act.put, List.setIfInBounds_toArray, List.set]
  refine upW_val (by rfl) (by rfl) (by rfl) (fun K hK => quiet_load_row _ _ rfl M1 rfl 39 _ (0, 0) _ HM1.out Try.underlying39 rfl (sM b HLA1.out) (hK _ ?_))
  simp only [Act.put, List.setIfInBounds_toArray, List.set]
  refine upW_call (by rfl) (by rfl) (.agg (byteVals rH23).toArray) _ rfl (by simp) (fun p => ?_) ?_
  · go_big_quiet_op
    exact ⟨_, fun q => Calls.ext_of (HQH23.out q.x), rfl⟩
  simp only [Act.put, List.setIfInBounds_toArray, List.set]
  refine upW_call (by rfl) (by rfl) (.bool true) _ rfl (by simp) (fun p => ?_) ?_
  · go_big_quiet_op
    exact ⟨_, fun q => Calls.ext_of (HQH24.out q.x), rfl⟩
  simp only [Act.put, List.setIfInBounds_toArray, List.set]
  refine upW_val (by rfl) (by rfl) (by rfl) ?_
  intro K hK
  go_big_quiet_op
  refine hK _ ?_
  refine upW_val (by rfl) (by rfl) (by rfl) ?_
  intro K hK
  go_big_quiet_op
  refine hK _ ?_
  refine upW_val (by rfl) (by rfl) (by rfl) (fun K hK => quiet_load_row _ _ rfl M0 rfl 39 _ (0, 0) _ HM0.out Try.underlying39 rfl (sM a HLA0.out) (hK _ ?_))
  simp only [Act.put, List.setIfInBounds_toArray, List.set]
  refine upW_call (by rfl) (by rfl) (.agg (byteVals rH25).toArray) _ rfl (by simp) (fun p => ?_) ?_
  · go_big_quiet_op
    exact ⟨_, fun q => Calls.ext_of (HQH25.out q.x), rfl⟩
  simp only [Act.put, List.setIfInBounds_toArray, List.set]
  refine upW_call (by rfl) (by rfl) (.bool true) _ rfl (by simp) (fun p => ?_) ?_
  · go_big_quiet_op
    exact ⟨_, fun q => Calls.ext_of (HQH26.out q.x), rfl⟩
  simp only [Act.put, List.setIfInBounds_toArray, List.set]
  refine upW_val (by rfl) (by rfl) (by rfl) ?_
  intro K hK
  go_big_quiet_op
  refine hK _ ?_
  refine upW_nil (fun w6 hbs => ?_)
  have HF := Lib.hid (HB.out.trans (hbs.mono (show N ≤ _ by have := HB.out.size; have := HN.out; omega)))
  clear hbs
  go_wp2
  go_ret
  exact ⟨rfl, HN.out.symm ▸ HF.out⟩
theorem scalarLaws_own : ownKnob Try.prog.godebug = none := by kernel_rfl

set_option maxRecDepth 100000 in
theorem scalarLaws_lifted (os : Os) (started : os.Started) (H : Type) (enc : TypeId × Value → H) :
    ReturnsInHanded {} Try.checked os 6 .any (Rows.scalarLawsSpec.pre6 enc Try.prog Try.f6 Rows.scalarLawsRow.domain false) (Rows.scalarLawsSpec.post enc Try.prog Try.f6 false true false false) := by
  refine returnsInHanded_of_change (C := Try.checked) scalarLaws_own started (by kernel_rfl) Try.func6
    (ChangeSpec.witness6 (enc := enc) (C := Try.checked) false ⟨#[], #[.agg (Array.replicate 32 (.int .u8 0)), .agg (Array.replicate 32 (.int .u8 0)), .agg (Array.replicate 32 (.int .u8 0))], []⟩ 8 (by kernel_rfl) (by kernel_rfl) (by kernel_rfl) (by kernel_rfl)) ?_
  intro W base args ds gs before hval0 hW hcnd _
  have hval : ∀ (j : Nat) t v, Try.f6.params[j]? = some t → args[j]? = some v → Value.okWide Try.prog W .any base t v := hval0
  have hW' := hW
  obtain ⟨p, q, hA0, hV, rfl, hfz, hnd⟩ := hW
  have hA : DataW.TrodAll enc Try.prog W 0 (fun _ => true) true Try.f6.params.toList args.toList ds p := hA0
  rw [Try.params6] at hA hval
  obtain ⟨v0, vs0, d0, ds0, p0, q0, hargs, rfl, rfl, h0, r0⟩ := trodAll_cons hA
  obtain ⟨v1, vs1, d1, ds1, p1, q1, rfl, rfl, rfl, h1, r1⟩ := trodAll_cons r0
  obtain ⟨v2, vs2, d2, ds2, p2, q2, rfl, rfl, rfl, h2, r2⟩ := trodAll_cons r1
  obtain ⟨rfl, rfl, rfl⟩ := trodAll_nil r2
  obtain rfl : args = #[v0, v1, v2] := by cases args; simp_all
  obtain ⟨rfl, rfl⟩ := trodVars_none hV
  obtain ⟨a0, hl0, rfl, rfl, rfl⟩ := open_arr8 Try.underlying22 Try.underlying5 (by kernel_rfl) (by kernel_rfl) (hval 0 22 v0 rfl rfl) h0
  obtain ⟨a1, hl1, rfl, rfl, rfl⟩ := open_arr8 Try.underlying22 Try.underlying5 (by kernel_rfl) (by kernel_rfl) (hval 1 22 v1 rfl rfl) h1
  obtain ⟨a2, hl2, rfl, rfl, rfl⟩ := open_arr8 Try.underlying22 Try.underlying5 (by kernel_rfl) (by kernel_rfl) (hval 2 22 v2 rfl rfl) h2
  clear hA0 hval0
  simp only [List.append_nil] at hW'
  refine (scalarLaws_true a0 a1 a2 W hl0 hl1 hl2).mono fun e W' ⟨he, bel⟩ => ?_
  subst he
  exact ⟨_, rfl, _, _, _, [], [], [], hW', trodAll_mk1 (shut_bool Try.underlying4 _), (trodAll_cons_mk (shut_arr8 Try.underlying22 Try.underlying5 (by kernel_rfl) (by kernel_rfl) a0 hl0) (trodAll_cons_mk (shut_arr8 Try.underlying22 Try.underlying5 (by kernel_rfl) (by kernel_rfl) a1 hl1) (trodAll_cons_mk (shut_arr8 Try.underlying22 Try.underlying5 (by kernel_rfl) (by kernel_rfl) a2 hl2) trodAll_mk0))), rfl, bel.frame _, fun h => by cases h⟩

theorem scalarLaws_holds : Rows.ScalarLawsSaid :=
  OpenClaim.holds_of_wide 6 Try.f6 rfl rfl rfl rfl rfl rfl rfl ⟨rfl, rfl, rfl, rfl, rfl⟩ rfl rfl rfl rfl rfl (by kernel_rfl) Try.func6 (by kernel_rfl)
    (of_decide_eq_true (by kernel_rfl)) (by unfold Func.isWrapper; first | (rw [if_pos (by decide +kernel)]; kernel_rfl) | (rw [if_neg (by decide +kernel)]; exact ⟨rfl, rfl⟩))
    (fun os started H enc _ => scalarLaws_lifted os started H enc)
#print axioms scalarLaws_holds

end Go.Proofs.Ytgajheocobgecaa
