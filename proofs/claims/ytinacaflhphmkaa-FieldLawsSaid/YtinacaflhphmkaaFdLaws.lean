/-
  FieldLaws: sums and products of any three numbers, in whatever order and bracket, are the same; a product of a sum is the sum of products; what is taken away comes back.
  Conditions: none.
-/
import Derived.Test.YtinacaflhphmkaaFdAw
import Derived.Test.YtinacaflhphmkaaFdNum
import Derived.Test.YtinacaflhphmkaaFdO
namespace Go.Proofs.Ytinacaflhphmkaa
open Go.RowKit

open Go.ChangeShapes Go.WideShapes Go.ChangeAt
set_option maxRecDepth 100000 in
set_option maxHeartbeats 1000000 in
theorem fieldLaws_true (a b c : List UInt8) (w : World) (hla : a.length = 32) (hlb : b.length = 32) (hlc : c.length = 32) :
    Calls Try.prog 5 #[.agg (byteVals a).toArray, .agg (byteVals b).toArray, .agg (byteVals c).toArray] w fun e w' => e = .returned (.bool true) ∧ Below w.heap.size w w' := by
  have HLA0 := Lib.hid hla
  have HLA1 := Lib.hid hlb
  have HLA2 := Lib.hid hlc
  have hz := zN
  clear hla hlb hlc
  obtain ⟨rH1, hrH1⟩ : ∃ r, b32 (fAdd (le b) (le c)) = r := ⟨_, rfl⟩
  have HQH1 := Lib.hid (fun w => Add_any b c w HLA1.out HLA2.out)
  rw [hrH1] at HQH1
  have HLH1 := Lib.hid (show rH1.length = 32 by rw [← hrH1]; exact b32_len _)
  have HVH1 := Lib.hid (show le rH1 = fAdd (le b) (le c) by rw [← hrH1]; exact le_b32 _ (lt4 (fAdd_lt _ _ )))
  clear hrH1
  obtain ⟨rH2, hrH2⟩ : ∃ r, b32 (fAdd (le a) (le rH1)) = r := ⟨_, rfl⟩
  have HQH2 := Lib.hid (fun w => Add_any a rH1 w HLA0.out HLH1.out)
  rw [hrH2] at HQH2
  have HLH2 := Lib.hid (show rH2.length = 32 by rw [← hrH2]; exact b32_len _)
  have HVH2 := Lib.hid (show le rH2 = fAdd (le a) (le rH1) by rw [← hrH2]; exact le_b32 _ (lt4 (fAdd_lt _ _ )))
  clear hrH2
  obtain ⟨rH3, hrH3⟩ : ∃ r, b32 (fAdd (le a) (le b)) = r := ⟨_, rfl⟩
  have HQH3 := Lib.hid (fun w => Add_any a b w HLA0.out HLA1.out)
  rw [hrH3] at HQH3
  have HLH3 := Lib.hid (show rH3.length = 32 by rw [← hrH3]; exact b32_len _)
  have HVH3 := Lib.hid (show le rH3 = fAdd (le a) (le b) by rw [← hrH3]; exact le_b32 _ (lt4 (fAdd_lt _ _ )))
  clear hrH3
  obtain ⟨rH4, hrH4⟩ : ∃ r, b32 (fAdd (le rH3) (le c)) = r := ⟨_, rfl⟩
  have HQH4 := Lib.hid (fun w => Add_any rH3 c w HLH3.out HLA2.out)
  rw [hrH4] at HQH4
  have HLH4 := Lib.hid (show rH4.length = 32 by rw [← hrH4]; exact b32_len _)
  have HVH4 := Lib.hid (show le rH4 = fAdd (le rH3) (le c) by rw [← hrH4]; exact le_b32 _ (lt4 (fAdd_lt _ _ )))
  clear hrH4
  obtain ⟨rH5, hrH5⟩ : ∃ r, b32 (fAdd (le a) (le b)) = r := ⟨_, rfl⟩
  have HQH5 := Lib.hid (fun w => Add_any a b w HLA0.out HLA1.out)
  rw [hrH5] at HQH5
  have HLH5 := Lib.hid (show rH5.length = 32 by rw [← hrH5]; exact b32_len _)
  have HVH5 := Lib.hid (show le rH5 = fAdd (le a) (le b) by rw [← hrH5]; exact le_b32 _ (lt4 (fAdd_lt _ _ )))
  clear hrH5
  obtain ⟨rH6, hrH6⟩ : ∃ r, b32 (fAdd (le b) (le a)) = r := ⟨_, rfl⟩
  have HQH6 := Lib.hid (fun w => Add_any b a w HLA1.out HLA0.out)
  rw [hrH6] at HQH6
  have HLH6 := Lib.hid (show rH6.length = 32 by rw [← hrH6]; exact b32_len _)
  have HVH6 := Lib.hid (show le rH6 = fAdd (le b) (le a) by rw [← hrH6]; exact le_b32 _ (lt4 (fAdd_lt _ _ )))
  clear hrH6
  obtain ⟨rH7, hrH7⟩ : ∃ r, b32 (fMul (le b) (le c)) = r := ⟨_, rfl⟩
  have HQH7 := Lib.hid (fun w => Mul_any b c w HLA1.out HLA2.out)
  rw [hrH7] at HQH7
  have HLH7 := Lib.hid (show rH7.length = 32 by rw [← hrH7]; exact b32_len _)
  have HVH7 := Lib.hid (show le rH7 = fMul (le b) (le c) by rw [← hrH7]; exact le_b32 _ (lt4 (fMul_lt _ _ )))
  clear hrH7
  obtain ⟨rH8, hrH8⟩ : ∃ r, b32 (fMul (le a) (le rH7)) = r := ⟨_, rfl⟩
  have HQH8 := Lib.hid (fun w => Mul_any a rH7 w HLA0.out HLH7.out)
  rw [hrH8] at HQH8
  have HLH8 := Lib.hid (show rH8.length = 32 by rw [← hrH8]; exact b32_len _)
  have HVH8 := Lib.hid (show le rH8 = fMul (le a) (le rH7) by rw [← hrH8]; exact le_b32 _ (lt4 (fMul_lt _ _ )))
  clear hrH8
  obtain ⟨rH9, hrH9⟩ : ∃ r, b32 (fMul (le a) (le b)) = r := ⟨_, rfl⟩
  have HQH9 := Lib.hid (fun w => Mul_any a b w HLA0.out HLA1.out)
  rw [hrH9] at HQH9
  have HLH9 := Lib.hid (show rH9.length = 32 by rw [← hrH9]; exact b32_len _)
  have HVH9 := Lib.hid (show le rH9 = fMul (le a) (le b) by rw [← hrH9]; exact le_b32 _ (lt4 (fMul_lt _ _ )))
  clear hrH9
  obtain ⟨rH10, hrH10⟩ : ∃ r, b32 (fMul (le rH9) (le c)) = r := ⟨_, rfl⟩
  have HQH10 := Lib.hid (fun w => Mul_any rH9 c w HLH9.out HLA2.out)
  rw [hrH10] at HQH10
  have HLH10 := Lib.hid (show rH10.length = 32 by rw [← hrH10]; exact b32_len _)
  have HVH10 := Lib.hid (show le rH10 = fMul (le rH9) (le c) by rw [← hrH10]; exact le_b32 _ (lt4 (fMul_lt _ _ )))
  clear hrH10
  obtain ⟨rH11, hrH11⟩ : ∃ r, b32 (fMul (le a) (le b)) = r := ⟨_, rfl⟩
  have HQH11 := Lib.hid (fun w => Mul_any a b w HLA0.out HLA1.out)
  rw [hrH11] at HQH11
  have HLH11 := Lib.hid (show rH11.length = 32 by rw [← hrH11]; exact b32_len _)
  have HVH11 := Lib.hid (show le rH11 = fMul (le a) (le b) by rw [← hrH11]; exact le_b32 _ (lt4 (fMul_lt _ _ )))
  clear hrH11
  obtain ⟨rH12, hrH12⟩ : ∃ r, b32 (fMul (le b) (le a)) = r := ⟨_, rfl⟩
  have HQH12 := Lib.hid (fun w => Mul_any b a w HLA1.out HLA0.out)
  rw [hrH12] at HQH12
  have HLH12 := Lib.hid (show rH12.length = 32 by rw [← hrH12]; exact b32_len _)
  have HVH12 := Lib.hid (show le rH12 = fMul (le b) (le a) by rw [← hrH12]; exact le_b32 _ (lt4 (fMul_lt _ _ )))
  clear hrH12
  obtain ⟨rH13, hrH13⟩ : ∃ r, b32 (fAdd (le b) (le c)) = r := ⟨_, rfl⟩
  have HQH13 := Lib.hid (fun w => Add_any b c w HLA1.out HLA2.out)
  rw [hrH13] at HQH13
  have HLH13 := Lib.hid (show rH13.length = 32 by rw [← hrH13]; exact b32_len _)
  have HVH13 := Lib.hid (show le rH13 = fAdd (le b) (le c) by rw [← hrH13]; exact le_b32 _ (lt4 (fAdd_lt _ _ )))
  clear hrH13
  obtain ⟨rH14, hrH14⟩ : ∃ r, b32 (fMul (le a) (le rH13)) = r := ⟨_, rfl⟩
  have HQH14 := Lib.hid (fun w => Mul_any a rH13 w HLA0.out HLH13.out)
  rw [hrH14] at HQH14
  have HLH14 := Lib.hid (show rH14.length = 32 by rw [← hrH14]; exact b32_len _)
  have HVH14 := Lib.hid (show le rH14 = fMul (le a) (le rH13) by rw [← hrH14]; exact le_b32 _ (lt4 (fMul_lt _ _ )))
  clear hrH14
  obtain ⟨rH15, hrH15⟩ : ∃ r, b32 (fMul (le a) (le b)) = r := ⟨_, rfl⟩
  have HQH15 := Lib.hid (fun w => Mul_any a b w HLA0.out HLA1.out)
  rw [hrH15] at HQH15
  have HLH15 := Lib.hid (show rH15.length = 32 by rw [← hrH15]; exact b32_len _)
  have HVH15 := Lib.hid (show le rH15 = fMul (le a) (le b) by rw [← hrH15]; exact le_b32 _ (lt4 (fMul_lt _ _ )))
  clear hrH15
  obtain ⟨rH16, hrH16⟩ : ∃ r, b32 (fMul (le a) (le c)) = r := ⟨_, rfl⟩
  have HQH16 := Lib.hid (fun w => Mul_any a c w HLA0.out HLA2.out)
  rw [hrH16] at HQH16
  have HLH16 := Lib.hid (show rH16.length = 32 by rw [← hrH16]; exact b32_len _)
  have HVH16 := Lib.hid (show le rH16 = fMul (le a) (le c) by rw [← hrH16]; exact le_b32 _ (lt4 (fMul_lt _ _ )))
  clear hrH16
  obtain ⟨rH17, hrH17⟩ : ∃ r, b32 (fAdd (le rH15) (le rH16)) = r := ⟨_, rfl⟩
  have HQH17 := Lib.hid (fun w => Add_any rH15 rH16 w HLH15.out HLH16.out)
  rw [hrH17] at HQH17
  have HLH17 := Lib.hid (show rH17.length = 32 by rw [← hrH17]; exact b32_len _)
  have HVH17 := Lib.hid (show le rH17 = fAdd (le rH15) (le rH16) by rw [← hrH17]; exact le_b32 _ (lt4 (fAdd_lt _ _ )))
  clear hrH17
  obtain ⟨rH18, hrH18⟩ : ∃ r, b32 (fSub (le a) (le b)) = r := ⟨_, rfl⟩
  have HQH18 := Lib.hid (fun w => Sub_any a b w HLA0.out HLA1.out)
  rw [hrH18] at HQH18
  have HLH18 := Lib.hid (show rH18.length = 32 by rw [← hrH18]; exact b32_len _)
  have HVH18 := Lib.hid (show le rH18 = fSub (le a) (le b) by rw [← hrH18]; exact le_b32 _ (lt4 (fSub_lt _ _ )))
  clear hrH18
  obtain ⟨rH19, hrH19⟩ : ∃ r, b32 (fAdd (le rH18) (le b)) = r := ⟨_, rfl⟩
  have HQH19 := Lib.hid (fun w => Add_any rH18 b w HLH18.out HLA1.out)
  rw [hrH19] at HQH19
  have HLH19 := Lib.hid (show rH19.length = 32 by rw [← hrH19]; exact b32_len _)
  have HVH19 := Lib.hid (show le rH19 = fAdd (le rH18) (le b) by rw [← hrH19]; exact le_b32 _ (lt4 (fAdd_lt _ _ )))
  clear hrH19
  obtain ⟨rH20, hrH20⟩ : ∃ r, b32 (le a % 57896044618658097711785492504343953926634992332820282019728792003956564819949) = r := ⟨_, rfl⟩
  have HQH20 := Lib.hid (fun w => Rest_any a w HLA0.out)
  rw [hrH20] at HQH20
  have HLH20 := Lib.hid (show rH20.length = 32 by rw [← hrH20]; exact b32_len _)
  have HVH20 := Lib.hid (show le rH20 = le a % 57896044618658097711785492504343953926634992332820282019728792003956564819949 by rw [← hrH20]; exact le_b32 _ (lt4 (Nat.mod_lt _ P_pos)))
  clear hrH20
  obtain ⟨rH21, hrH21⟩ : ∃ r, b32 1 = r := ⟨_, rfl⟩
  have HQH21 : Hid (∀ w, Calls Try.prog 11 #[.int .u64 1] w fun e w' => e = .returned (.agg (byteVals rH21).toArray) ∧ Below w.heap.size w w') := Lib.hid (fun w => by have := Of_any 1 w (by decide); rw [hrH21] at this; exact this)
  have HLH21 := Lib.hid (show rH21.length = 32 by rw [← hrH21]; exact b32_len _)
  have HVH21 := Lib.hid (show le rH21 = 1 by rw [← hrH21]; exact le_b32 _ (by decide))
  clear hrH21
  obtain ⟨rH22, hrH22⟩ : ∃ r, b32 (fMul (le a) (le rH21)) = r := ⟨_, rfl⟩
  have HQH22 := Lib.hid (fun w => Mul_any a rH21 w HLA0.out HLH21.out)
  rw [hrH22] at HQH22
  have HLH22 := Lib.hid (show rH22.length = 32 by rw [← hrH22]; exact b32_len _)
  have HVH22 := Lib.hid (show le rH22 = fMul (le a) (le rH21) by rw [← hrH22]; exact le_b32 _ (lt4 (fMul_lt _ _ )))
  clear hrH22
  obtain ⟨rH23, hrH23⟩ : ∃ r, b32 (le a % 57896044618658097711785492504343953926634992332820282019728792003956564819949) = r := ⟨_, rfl⟩
  have HQH23 := Lib.hid (fun w => Rest_any a w HLA0.out)
  rw [hrH23] at HQH23
  have HLH23 := Lib.hid (show rH23.length = 32 by rw [← hrH23]; exact b32_len _)
  have HVH23 := Lib.hid (show le rH23 = le a % 57896044618658097711785492504343953926634992332820282019728792003956564819949 by rw [← hrH23]; exact le_b32 _ (lt4 (Nat.mod_lt _ P_pos)))
  clear hrH23
  obtain ⟨rH24, hrH24⟩ : ∃ r, b32 (fSub (le a) (le a)) = r := ⟨_, rfl⟩
  have HQH24 := Lib.hid (fun w => Sub_any a a w HLA0.out HLA0.out)
  rw [hrH24] at HQH24
  have HLH24 := Lib.hid (show rH24.length = 32 by rw [← hrH24]; exact b32_len _)
  have HVH24 := Lib.hid (show le rH24 = fSub (le a) (le a) by rw [← hrH24]; exact le_b32 _ (lt4 (fSub_lt _ _ )))
  clear hrH24
  obtain ⟨rH25, hrH25⟩ : ∃ r, b32 (fMul (le a) (le (zerB 32))) = r := ⟨_, rfl⟩
  have HQH25 := Lib.hid (fun w => Mul_any a (zerB 32) w HLA0.out (zerB_len 32))
  rw [hrH25] at HQH25
  have HLH25 := Lib.hid (show rH25.length = 32 by rw [← hrH25]; exact b32_len _)
  have HVH25 := Lib.hid (show le rH25 = fMul (le a) (le (zerB 32)) by rw [← hrH25]; exact le_b32 _ (lt4 (fMul_lt _ _ )))
  clear hrH25
  go_enter Try.func5, Try.ntmps5
  go_upto_region 1 with fail
  generalize hW1 : World.alloc _ _ = W1
  obtain ⟨N, hN⟩ : ∃ n, w.heap.size = n := ⟨_, rfl⟩
  have HX0 := Lib.hid (show BT W1 N 23 a by subst hW1; rw [← hN]; exact (alloc3_at w _ _ _).1)
  have HX1 := Lib.hid (show BT W1 (N + 1) 23 b by subst hW1; rw [← hN]; exact (alloc3_at w _ _ _).2.1)
  have HX2 := Lib.hid (show BT W1 (N + 1 + 1) 23 c by subst hW1; rw [← hN]; exact (alloc3_at w _ _ _).2.2)
  have HB := Lib.hid (show Below N w W1 by subst hW1; rw [← hN]; exact Below.alloc3 w _ _ _)
  have HN := Lib.hid hN
  rw [hN]
  clear hW1 hN
  go_wp2_with fail
  refine (awake_any _).mono ?_
  rintro e wa ⟨rfl, hba⟩
  have HX0' := Lib.hid (HX0.out.ext hba)
  have HX1' := Lib.hid (HX1.out.ext hba)
  have HX2' := Lib.hid (HX2.out.ext hba)
  have HB' := Lib.hid (HB.out.trans (hba.mono (show N ≤ _ by have := HX0.out.lt; omega)))
  clear hba HB HX0 HX1 HX2
  have HB := HB'
  have HX0 := HX0'
  have HX1 := HX1'
  have HX2 := HX2'
  clear HB' HX0' HX1' HX2'
  go_wp2_with fail
  refine wp_region_whole [0, 1, 2] [⟨3, _, 24, (byteVals (zerB 32)).toArray, 7, 6, _, 24, 12, (byteVals a).toArray⟩, ⟨4, _, 24, (byteVals (zerB 32)).toArray, 8, 7, _, 24, 13, (byteVals b).toArray⟩, ⟨5, _, 24, (byteVals (zerB 32)).toArray, 9, 8, _, 24, 14, (byteVals c).toArray⟩] [8, 7, 6, 5, 4, 3] (by kernel_rfl) (by kernel_rfl) (List.forall_mem_cons.2 ⟨⟨⟨rfl, rfl, rfl, fun a w => run_allocN a _ rfl w⟩, rfl, rfl, rfl, rfl, sN a HLA0.out, oN (zerB 32) a (zerB_len 32) HLA0.out, byteVals_one _⟩, (List.forall_mem_cons.2 ⟨⟨⟨rfl, rfl, rfl, fun a w => run_allocN a _ rfl w⟩, rfl, rfl, rfl, rfl, sN b HLA1.out, oN (zerB 32) b (zerB_len 32) HLA1.out, byteVals_one _⟩, (List.forall_mem_cons.2 ⟨⟨⟨rfl, rfl, rfl, fun a w => run_allocN a _ rfl w⟩, rfl, rfl, rfl, rfl, sN c HLA2.out, oN (zerB 32) c (zerB_len 32) HLA2.out, byteVals_one _⟩, (List.forall_mem_nil _)⟩)⟩)⟩) rfl ?_
  simp only [List.foldl, List.eraseIdx_cons_succ, List.eraseIdx_cons_zero]
  refine upW_val (by rfl) (by rfl) (by rfl) (fun K hK => quiet_load_row _ _ rfl N rfl 23 _ (0, 0) _ HX0.out Try.underlying23 rfl (sB a HLA0.out) (hK _ ?_))
  simp only [Act.put, List.setIfInBounds_toArray, List.set]
  refine upW_val (by rfl) (by rfl) (by rfl) (fun K hK => quiet_load_row _ _ rfl (N + 1) rfl 23 _ (0, 0) _ HX1.out Try.underlying23 rfl (sB b HLA1.out) (hK _ ?_))
  simp only [Act.put, List.setIfInBounds_toArray, List.set]
  refine upW_val (by rfl) (by rfl) (by rfl) (fun K hK => quiet_load_row _ _ rfl (N + 1 + 1) rfl 23 _ (0, 0) _ HX2.out Try.underlying23 rfl (sB c HLA2.out) (hK _ ?_))
  simp only [Act.put, List.setIfInBounds_toArray, List.set]
  refine upW_nil ⟨(List.forall_mem_cons.2 ⟨rfl, (List.forall_mem_cons.2 ⟨rfl, (List.forall_mem_cons.2 ⟨rfl, (List.forall_mem_nil _)⟩)⟩)⟩), fun M w3 hM hne hbs => ?_⟩
  have hm0 := hM _ (List.mem_cons_self ..)
  have hm1 := hM _ (List.mem_cons_of_mem _ (List.mem_cons_self ..))
  have hm2 := hM _ (List.mem_cons_of_mem _ (List.mem_cons_of_mem _ (List.mem_cons_self ..)))
  have hn01 : M 3 ≠ M 4 := hne _ (List.mem_cons_self ..) _ (List.mem_cons_of_mem _ (List.mem_cons_self ..)) (show (3 : Nat) ≠ 4 by decide)
  have hn02 : M 3 ≠ M 5 := hne _ (List.mem_cons_self ..) _ (List.mem_cons_of_mem _ (List.mem_cons_of_mem _ (List.mem_cons_self ..))) (show (3 : Nat) ≠ 5 by decide)
  have hn12 : M 4 ≠ M 5 := hne _ (List.mem_cons_of_mem _ (List.mem_cons_self ..)) _ (List.mem_cons_of_mem _ (List.mem_cons_of_mem _ (List.mem_cons_self ..))) (show (4 : Nat) ≠ 5 by decide)
  clear hM hne
  simp only [List.foldr, pS, Act.put, List.setIfInBounds_toArray, List.set]
  obtain ⟨M0, hM0⟩ : ∃ m, M 3 = m := ⟨_, rfl⟩
  have HM0 := Lib.hid (show BT w3 M0 24 a by rw [← hM0]; exact hm0.2)
  obtain ⟨M1, hM1⟩ : ∃ m, M 4 = m := ⟨_, rfl⟩
  have HM1 := Lib.hid (show BT w3 M1 24 b by rw [← hM1]; exact hm1.2)
  obtain ⟨M2, hM2⟩ : ∃ m, M 5 = m := ⟨_, rfl⟩
  have HM2 := Lib.hid (show BT w3 M2 24 c by rw [← hM2]; exact hm2.2)
  rw [hM0, hM1] at hn01
  rw [hM0, hM2] at hn02
  rw [hM1, hM2] at hn12
  rw [hM0, hM1, hM2]
  clear hm0 hM0 hm1 hM1 hm2 hM2
  have HX0' := Lib.hid (HX0.out.ext hbs)
  have HX1' := Lib.hid (HX1.out.ext hbs)
  have HX2' := Lib.hid (HX2.out.ext hbs)
  have HB' := Lib.hid (HB.out.trans (hbs.mono (show N ≤ _ by have := HB.out.size; have := HN.out; omega)))
  clear hbs HB HX0 HX1 HX2
  have HB := HB'
  have HX0 := HX0'
  have HX1 := HX1'
  have HX2 := HX2'
  clear HB' HX0' HX1' HX2'
  go_wp2_with fail
  refine wp_region_up 89 89 (by kernel_rfl) (by kernel_rfl) (fun _ _ dst _ _ h => by cases dst <;> exact h) ?_
  simp only [List.append, List.take_succ_cons, List.take_zero, List.drop_succ_cons, List.drop_zero]
  refine upW_val (by rfl) (by rfl) (by rfl) (fun K hK => quiet_load_row _ _ rfl M0 rfl 24 _ (0, 0) _ HM0.out Try.underlying24 rfl (sN a HLA0.out) (hK _ ?_))
  simp only [Act.put, List.setIfInBounds_toArray, List.set]
  refine upW_val (by rfl) (by rfl) (by rfl) (fun K hK => quiet_load_row _ _ rfl M1 rfl 24 _ (0, 0) _ HM1.out Try.underlying24 rfl (sN b HLA1.out) (hK _ ?_))
  simp only [Act.put, List.setIfInBounds_toArray, List.set]
  refine upW_val (by rfl) (by rfl) (by rfl) (fun K hK => quiet_load_row _ _ rfl M2 rfl 24 _ (0, 0) _ HM2.out Try.underlying24 rfl (sN c HLA2.out) (hK _ ?_))
  simp only [Act.put, List.setIfInBounds_toArray, List.set]
  refine upW_call (by rfl) (by rfl) (.agg (byteVals rH1).toArray) _ rfl (by simp) (fun p => ?_) ?_
  · go_big_quiet_op
    exact ⟨_, fun q => Calls.ext_of (HQH1.out q.x), rfl⟩
  simp only [Act.put, List.setIfInBounds_toArray, List.set]
  refine upW_call (by rfl) (by rfl) (.agg (byteVals rH2).toArray) _ rfl (by simp) (fun p => ?_) ?_
  · go_big_quiet_op
    exact ⟨_, fun q => Calls.ext_of (HQH2.out q.x), rfl⟩
  simp only [Act.put, List.setIfInBounds_toArray, List.set]
  refine upW_val (by rfl) (by rfl) (by rfl) (fun K hK => quiet_load_row _ _ rfl M0 rfl 24 _ (0, 0) _ HM0.out Try.underlying24 rfl (sN a HLA0.out) (hK _ ?_))
  simp only [Act.put, List.setIfInBounds_toArray, List.set]
  refine upW_val (by rfl) (by rfl) (by rfl) (fun K hK => quiet_load_row _ _ rfl M1 rfl 24 _ (0, 0) _ HM1.out Try.underlying24 rfl (sN b HLA1.out) (hK _ ?_))
  simp only [Act.put, List.setIfInBounds_toArray, List.set]
  refine upW_call (by rfl) (by rfl) (.agg (byteVals rH3).toArray) _ rfl (by simp) (fun p => ?_) ?_
  · go_big_quiet_op
    exact ⟨_, fun q => Calls.ext_of (HQH3.out q.x), rfl⟩
  simp only [Act.put, List.setIfInBounds_toArray, List.set]
  refine upW_val (by rfl) (by rfl) (by rfl) (fun K hK => quiet_load_row _ _ rfl M2 rfl 24 _ (0, 0) _ HM2.out Try.underlying24 rfl (sN c HLA2.out) (hK _ ?_))
  simp only [Act.put, List.setIfInBounds_toArray, List.set]
  refine upW_call (by rfl) (by rfl) (.agg (byteVals rH4).toArray) _ rfl (by simp) (fun p => ?_) ?_
  · go_big_quiet_op
    exact ⟨_, fun q => Calls.ext_of (HQH4.out q.x), rfl⟩
  simp only [Act.put, List.setIfInBounds_toArray, List.set]
  refine upW_late (by rfl) (.bool true) (fun w => run_eqB _ _ _ _ 24 rfl Try.underlying24 rH2 rH4 rfl rfl HLH2.out HLH4.out (by kernel_rfl) true (decide_eq_true (eq_le HLH2.out HLH4.out (by simp only [HVH1.out, HVH2.out, HVH3.out, HVH4.out]; exact (fAdd_assoc _ _ _)))) w) ?_
  simp only [Act.put, List.setIfInBounds_toArray, List.set]
  refine upW_val (by rfl) (by rfl) (by rfl) ?_
  intro K hK
  go_big_quiet_op
  refine hK _ ?_
  refine upW_val (by rfl) (by rfl) (by rfl) (fun K hK => quiet_load_row _ _ rfl M0 rfl 24 _ (0, 0) _ HM0.out Try.underlying24 rfl (sN a HLA0.out) (hK _ ?_))
  simp only [Act.put, List.setIfInBounds_toArray, List.set]
  refine upW_val (by rfl) (by rfl) (by rfl) (fun K hK => quiet_load_row _ _ rfl M1 rfl 24 _ (0, 0) _ HM1.out Try.underlying24 rfl (sN b HLA1.out) (hK _ ?_))
  simp only [Act.put, List.setIfInBounds_toArray, List.set]
  refine upW_call (by rfl) (by rfl) (.agg (byteVals rH5).toArray) _ rfl (by simp) (fun p => ?_) ?_
  · go_big_quiet_op
    exact ⟨_, fun q => Calls.ext_of (HQH5.out q.x), rfl⟩
  simp only [Act.put, List.setIfInBounds_toArray, List.set]
  refine upW_val (by rfl) (by rfl) (by rfl) (fun K hK => quiet_load_row _ _ rfl M1 rfl 24 _ (0, 0) _ HM1.out Try.underlying24 rfl (sN b HLA1.out) (hK _ ?_))
  simp only [Act.put, List.setIfInBounds_toArray, List.set]
  refine upW_val (by rfl) (by rfl) (by rfl) (fun K hK => quiet_load_row _ _ rfl M0 rfl 24 _ (0, 0) _ HM0.out Try.underlying24 rfl (sN a HLA0.out) (hK _ ?_))
  simp only [Act.put, List.setIfInBounds_toArray, List.set]
  refine upW_call (by rfl) (by rfl) (.agg (byteVals rH6).toArray) _ rfl (by simp) (fun p => ?_) ?_
  · go_big_quiet_op
    exact ⟨_, fun q => Calls.ext_of (HQH6.out q.x), rfl⟩
  simp only [Act.put, List.setIfInBounds_toArray, List.set]
  refine upW_late (by rfl) (.bool true) (fun w => run_eqB _ _ _ _ 24 rfl Try.underlying24 rH5 rH6 rfl rfl HLH5.out HLH6.out (by kernel_rfl) true (decide_eq_true (eq_le HLH5.out HLH6.out (by simp only [HVH5.out, HVH6.out]; exact (fAdd_comm _ _)))) w) ?_
  simp only [Act.put, List.setIfInBounds_toArray, List.set]
  refine upW_val (by rfl) (by rfl) (by rfl) ?_
  intro K hK
  go_big_quiet_op
  refine hK _ ?_
  refine upW_val (by rfl) (by rfl) (by rfl) ?_
  intro K hK
  go_big_quiet_op
  refine hK _ ?_
  refine upW_val (by rfl) (by rfl) (by rfl) (fun K hK => quiet_load_row _ _ rfl M0 rfl 24 _ (0, 0) _ HM0.out Try.underlying24 rfl (sN a HLA0.out) (hK _ ?_))
  simp only [Act.put, List.setIfInBounds_toArray, List.set]
  refine upW_val (by rfl) (by rfl) (by rfl) (fun K hK => quiet_load_row _ _ rfl M1 rfl 24 _ (0, 0) _ HM1.out Try.underlying24 rfl (sN b HLA1.out) (hK _ ?_))
  simp only [Act.put, List.setIfInBounds_toArray, List.set]
  refine upW_val (by rfl) (by rfl) (by rfl) (fun K hK => quiet_load_row _ _ rfl M2 rfl 24 _ (0, 0) _ HM2.out Try.underlying24 rfl (sN c HLA2.out) (hK _ ?_))
  simp only [Act.put, List.setIfInBounds_toArray, List.set]
  refine upW_call (by rfl) (by rfl) (.agg (byteVals rH7).toArray) _ rfl (by simp) (fun p => ?_) ?_
  · go_big_quiet_op
    exact ⟨_, fun q => Calls.ext_of (HQH7.out q.x), rfl⟩
  simp only [Act.put, List.setIfInBounds_toArray, List.set]
  refine upW_call (by rfl) (by rfl) (.agg (byteVals rH8).toArray) _ rfl (by simp) (fun p => ?_) ?_
  · go_big_quiet_op
    exact ⟨_, fun q => Calls.ext_of (HQH8.out q.x), rfl⟩
  simp only [Act.put, List.setIfInBounds_toArray, List.set]
  refine upW_val (by rfl) (by rfl) (by rfl) (fun K hK => quiet_load_row _ _ rfl M0 rfl 24 _ (0, 0) _ HM0.out Try.underlying24 rfl (sN a HLA0.out) (hK _ ?_))
  simp only [Act.put, List.setIfInBounds_toArray, List.set]
  refine upW_val (by rfl) (by rfl) (by rfl) (fun K hK => quiet_load_row _ _ rfl M1 rfl 24 _ (0, 0) _ HM1.out Try.underlying24 rfl (sN b HLA1.out) (hK _ ?_))
  simp only [Act.put, List.setIfInBounds_toArray, List.set]
  refine upW_call (by rfl) (by rfl) (.agg (byteVals rH9).toArray) _ rfl (by simp) (fun p => ?_) ?_
  · go_big_quiet_op
    exact ⟨_, fun q => Calls.ext_of (HQH9.out q.x), rfl⟩
  simp only [Act.put, List.setIfInBounds_toArray, List.set]
  refine upW_val (by rfl) (by rfl) (by rfl) (fun K hK => quiet_load_row _ _ rfl M2 rfl 24 _ (0, 0) _ HM2.out Try.underlying24 rfl (sN c HLA2.out) (hK _ ?_))
  simp only [Act.put, List.setIfInBounds_toArray, List.set]
  refine upW_call (by rfl) (by rfl) (.agg (byteVals rH10).toArray) _ rfl (by simp) (fun p => ?_) ?_
  · go_big_quiet_op
    exact ⟨_, fun q => Calls.ext_of (HQH10.out q.x), rfl⟩
  simp only [Act.put, List.setIfInBounds_toArray, List.set]
  refine upW_late (by rfl) (.bool true) (fun w => run_eqB _ _ _ _ 24 rfl Try.underlying24 rH8 rH10 rfl rfl HLH8.out HLH10.out (by kernel_rfl) true (decide_eq_true (eq_le HLH8.out HLH10.out (by simp only [HVH7.out, HVH8.out, HVH9.out, HVH10.out]; exact (fMul_assoc _ _ _ (le_32 a HLA0.out) (le_32 b HLA1.out) (le_32 c HLA2.out))))) w) ?_
  simp only [Act.put, List.setIfInBounds_toArray, List.set]
  refine upW_val (by rfl) (by rfl) (by rfl) ?_
  intro K hK
  go_big_quiet_op
  refine hK _ ?_
  refine upW_val (by rfl) (by rfl) (by rfl) ?_
  intro K hK
  go_big_quiet_op
  refine hK _ ?_
  refine upW_val (by rfl) (by rfl) (by rfl) (fun K hK => quiet_load_row _ _ rfl M0 rfl 24 _ (0, 0) _ HM0.out Try.underlying24 rfl (sN a HLA0.out) (hK _ ?_))
  simp only [Act.put, List.setIfInBounds_toArray, List.set]
  refine upW_val (by rfl) (by rfl) (by rfl) (fun K hK => quiet_load_row _ _ rfl M1 rfl 24 _ (0, 0) _ HM1.out Try.underlying24 rfl (sN b HLA1.out) (hK _ ?_))
  simp only [Act.put, List.setIfInBounds_toArray, List.set]
  refine upW_call (by rfl) (by rfl) (.agg (byteVals rH11).toArray) _ rfl (by simp) (fun p => ?_) ?_
  · go_big_quiet_op
    exact ⟨_, fun q => Calls.ext_of (HQH11.out q.x), rfl⟩
  simp only [Act.put, List.setIfInBounds_toArray, List.set]
  refine upW_val (by rfl) (by rfl) (by rfl) (fun K hK => quiet_load_row _ _ rfl M1 rfl 24 _ (0, 0) _ HM1.out Try.underlying24 rfl (sN b HLA1.out) (hK _ ?_))
  simp only [Act.put, List.setIfInBounds_toArray, List.set]
  refine upW_val (by rfl) (by rfl) (by rfl) (fun K hK => quiet_load_row _ _ rfl M0 rfl 24 _ (0, 0) _ HM0.out Try.underlying24 rfl (sN a HLA0.out) (hK _ ?_))
  simp only [Act.put, List.setIfInBounds_toArray, List.set]
  refine upW_call (by rfl) (by rfl) (.agg (byteVals rH12).toArray) _ rfl (by simp) (fun p => ?_) ?_
  · go_big_quiet_op
    exact ⟨_, fun q => Calls.ext_of (HQH12.out q.x), rfl⟩
  simp only [Act.put, List.setIfInBounds_toArray, List.set]
  refine upW_late (by rfl) (.bool true) (fun w => run_eqB _ _ _ _ 24 rfl Try.underlying24 rH11 rH12 rfl rfl HLH11.out HLH12.out (by kernel_rfl) true (decide_eq_true (eq_le HLH11.out HLH12.out (by simp only [HVH11.out, HVH12.out]; exact (fMul_comm _ _ (le_32 a HLA0.out) (le_32 b HLA1.out))))) w) ?_
  simp only [Act.put, List.setIfInBounds_toArray, List.set]
  refine upW_val (by rfl) (by rfl) (by rfl) ?_
  intro K hK
  go_big_quiet_op
  refine hK _ ?_
  refine upW_val (by rfl) (by rfl) (by rfl) ?_
  intro K hK
  go_big_quiet_op
  refine hK _ ?_
  refine upW_val (by rfl) (by rfl) (by rfl) (fun K hK => quiet_load_row _ _ rfl M0 rfl 24 _ (0, 0) _ HM0.out Try.underlying24 rfl (sN a HLA0.out) (hK _ ?_))
  simp only [Act.put, List.setIfInBounds_toArray, List.set]
  refine upW_val (by rfl) (by rfl) (by rfl) (fun K hK => quiet_load_row _ _ rfl M1 rfl 24 _ (0, 0) _ HM1.out Try.underlying24 rfl (sN b HLA1.out) (hK _ ?_))
  simp only [Act.put, List.setIfInBounds_toArray, List.set]
  refine upW_val (by rfl) (by rfl) (by rfl) (fun K hK => quiet_load_row _ _ rfl M2 rfl 24 _ (0, 0) _ HM2.out Try.underlying24 rfl (sN c HLA2.out) (hK _ ?_))
  simp only [Act.put, List.setIfInBounds_toArray, List.set]
  refine upW_call (by rfl) (by rfl) (.agg (byteVals rH13).toArray) _ rfl (by simp) (fun p => ?_) ?_
  · go_big_quiet_op
    exact ⟨_, fun q => Calls.ext_of (HQH13.out q.x), rfl⟩
  simp only [Act.put, List.setIfInBounds_toArray, List.set]
  refine upW_call (by rfl) (by rfl) (.agg (byteVals rH14).toArray) _ rfl (by simp) (fun p => ?_) ?_
  · go_big_quiet_op
    exact ⟨_, fun q => Calls.ext_of (HQH14.out q.x), rfl⟩
  simp only [Act.put, List.setIfInBounds_toArray, List.set]
  refine upW_val (by rfl) (by rfl) (by rfl) (fun K hK => quiet_load_row _ _ rfl M0 rfl 24 _ (0, 0) _ HM0.out Try.underlying24 rfl (sN a HLA0.out) (hK _ ?_))
  simp only [Act.put, List.setIfInBounds_toArray, List.set]
  refine upW_val (by rfl) (by rfl) (by rfl) (fun K hK => quiet_load_row _ _ rfl M1 rfl 24 _ (0, 0) _ HM1.out Try.underlying24 rfl (sN b HLA1.out) (hK _ ?_))
  simp only [Act.put, List.setIfInBounds_toArray, List.set]
  refine upW_call (by rfl) (by rfl) (.agg (byteVals rH15).toArray) _ rfl (by simp) (fun p => ?_) ?_
  · go_big_quiet_op
    exact ⟨_, fun q => Calls.ext_of (HQH15.out q.x), rfl⟩
  simp only [Act.put, List.setIfInBounds_toArray, List.set]
  refine upW_val (by rfl) (by rfl) (by rfl) (fun K hK => quiet_load_row _ _ rfl M0 rfl 24 _ (0, 0) _ HM0.out Try.underlying24 rfl (sN a HLA0.out) (hK _ ?_))
  simp only [Act.put, List.setIfInBounds_toArray, List.set]
  refine upW_val (by rfl) (by rfl) (by rfl) (fun K hK => quiet_load_row _ _ rfl M2 rfl 24 _ (0, 0) _ HM2.out Try.underlying24 rfl (sN c HLA2.out) (hK _ ?_))
  simp only [Act.put, List.setIfInBounds_toArray, List.set]
  refine upW_call (by rfl) (by rfl) (.agg (byteVals rH16).toArray) _ rfl (by simp) (fun p => ?_) ?_
  · go_big_quiet_op
    exact ⟨_, fun q => Calls.ext_of (HQH16.out q.x), rfl⟩
  simp only [Act.put, List.setIfInBounds_toArray, List.set]
  refine upW_call (by rfl) (by rfl) (.agg (byteVals rH17).toArray) _ rfl (by simp) (fun p => ?_) ?_
  · go_big_quiet_op
    exact ⟨_, fun q => Calls.ext_of (HQH17.out q.x), rfl⟩
  simp only [Act.put, List.setIfInBounds_toArray, List.set]
  refine upW_late (by rfl) (.bool true) (fun w => run_eqB _ _ _ _ 24 rfl Try.underlying24 rH14 rH17 rfl rfl HLH14.out HLH17.out (by kernel_rfl) true (decide_eq_true (eq_le HLH14.out HLH17.out (by simp only [HVH13.out, HVH14.out, HVH15.out, HVH16.out, HVH17.out]; exact (fMul_add _ _ _ (le_32 a HLA0.out) (le_32 b HLA1.out) (le_32 c HLA2.out))))) w) ?_
  simp only [Act.put, List.setIfInBounds_toArray, List.set]
  refine upW_val (by rfl) (by rfl) (by rfl) ?_
  intro K hK
  go_big_quiet_op
  refine hK _ ?_
  refine upW_val (by rfl) (by rfl) (by rfl) ?_
  intro K hK
  go_big_quiet_op
  refine hK _ ?_
  refine upW_val (by rfl) (by rfl) (by rfl) (fun K hK => quiet_load_row _ _ rfl M0 rfl 24 _ (0, 0) _ HM0.out Try.underlying24 rfl (sN a HLA0.out) (hK _ ?_))
  simp only [Act.put, List.setIfInBounds_toArray, List.set]
  refine upW_val (by rfl) (by rfl) (by rfl) (fun K hK => quiet_load_row _ _ rfl M1 rfl 24 _ (0, 0) _ HM1.out Try.underlying24 rfl (sN b HLA1.out) (hK _ ?_))
  simp only [Act.put, List.setIfInBounds_toArray, List.set]
  refine upW_call (by rfl) (by rfl) (.agg (byteVals rH18).toArray) _ rfl (by simp) (fun p => ?_) ?_
  · go_big_quiet_op
    exact ⟨_, fun q => Calls.ext_of (HQH18.out q.x), rfl⟩
  simp only [Act.put, List.setIfInBounds_toArray, List.set]
  refine upW_val (by rfl) (by rfl) (by rfl) (fun K hK => quiet_load_row _ _ rfl M1 rfl 24 _ (0, 0) _ HM1.out Try.underlying24 rfl (sN b HLA1.out) (hK _ ?_))
  simp only [Act.put, List.setIfInBounds_toArray, List.set]
  refine upW_call (by rfl) (by rfl) (.agg (byteVals rH19).toArray) _ rfl (by simp) (fun p => ?_) ?_
  · go_big_quiet_op
    exact ⟨_, fun q => Calls.ext_of (HQH19.out q.x), rfl⟩
  simp only [Act.put, List.setIfInBounds_toArray, List.set]
  refine upW_val (by rfl) (by rfl) (by rfl) (fun K hK => quiet_load_row _ _ rfl M0 rfl 24 _ (0, 0) _ HM0.out Try.underlying24 rfl (sN a HLA0.out) (hK _ ?_))
  simp only [Act.put, List.setIfInBounds_toArray, List.set]
  refine upW_call (by rfl) (by rfl) (.agg (byteVals rH20).toArray) _ rfl (by simp) (fun p => ?_) ?_
  · go_big_quiet_op
    exact ⟨_, fun q => Calls.ext_of (HQH20.out q.x), rfl⟩
  simp only [Act.put, List.setIfInBounds_toArray, List.set]
  refine upW_late (by rfl) (.bool true) (fun w => run_eqB _ _ _ _ 24 rfl Try.underlying24 rH19 rH20 rfl rfl HLH19.out HLH20.out (by kernel_rfl) true (decide_eq_true (eq_le HLH19.out HLH20.out (by simp only [HVH18.out, HVH19.out, HVH20.out]; exact (fSub_add _ _)))) w) ?_
  simp only [Act.put, List.setIfInBounds_toArray, List.set]
  refine upW_val (by rfl) (by rfl) (by rfl) ?_
  intro K hK
  go_big_quiet_op
  refine hK _ ?_
  refine upW_val (by rfl) (by rfl) (by rfl) ?_
  intro K hK
  go_big_quiet_op
  refine hK _ ?_
  refine upW_val (by rfl) (by rfl) (by rfl) (fun K hK => quiet_load_row _ _ rfl M0 rfl 24 _ (0, 0) _ HM0.out Try.underlying24 rfl (sN a HLA0.out) (hK _ ?_))
  simp only [Act.put, List.setIfInBounds_toArray, List.set]
  refine upW_call (by rfl) (by rfl) (.agg (byteVals rH21).toArray) _ rfl (by simp) (fun p => ?_) ?_
  · go_big_quiet_op
    exact ⟨_, fun q => Calls.ext_of (HQH21.out q.x), rfl⟩
  simp only [Act.put, List.setIfInBounds_toArray, List.set]
  refine upW_call (by rfl) (by rfl) (.agg (byteVals rH22).toArray) _ rfl (by simp) (fun p => ?_) ?_
  · go_big_quiet_op
    exact ⟨_, fun q => Calls.ext_of (HQH22.out q.x), rfl⟩
  simp only [Act.put, List.setIfInBounds_toArray, List.set]
  refine upW_val (by rfl) (by rfl) (by rfl) (fun K hK => quiet_load_row _ _ rfl M0 rfl 24 _ (0, 0) _ HM0.out Try.underlying24 rfl (sN a HLA0.out) (hK _ ?_))
  simp only [Act.put, List.setIfInBounds_toArray, List.set]
  refine upW_call (by rfl) (by rfl) (.agg (byteVals rH23).toArray) _ rfl (by simp) (fun p => ?_) ?_
  · go_big_quiet_op
    exact ⟨_, fun q => Calls.ext_of (HQH23.out q.x), rfl⟩
  simp only [Act.put, List.setIfInBounds_toArray, List.set]
  refine upW_late (by rfl) (.bool true) (fun w => run_eqB _ _ _ _ 24 rfl Try.underlying24 rH22 rH23 rfl rfl HLH22.out HLH23.out (by kernel_rfl) true (decide_eq_true (eq_le HLH22.out HLH23.out (by simp only [HVH21.out, HVH22.out, HVH23.out]; exact (fMul_one _ (le_32 a HLA0.out))))) w) ?_
  simp only [Act.put, List.setIfInBounds_toArray, List.set]
  refine upW_val (by rfl) (by rfl) (by rfl) ?_
  intro K hK
  go_big_quiet_op
  refine hK _ ?_
  refine upW_val (by rfl) (by rfl) (by rfl) ?_
  intro K hK
  go_big_quiet_op
  refine hK _ ?_
  refine upW_val (by rfl) (by rfl) (by rfl) (fun K hK => quiet_load_row _ _ rfl M0 rfl 24 _ (0, 0) _ HM0.out Try.underlying24 rfl (sN a HLA0.out) (hK _ ?_))
  simp only [Act.put, List.setIfInBounds_toArray, List.set]
  refine upW_val (by rfl) (by rfl) (by rfl) (fun K hK => quiet_load_row _ _ rfl M0 rfl 24 _ (0, 0) _ HM0.out Try.underlying24 rfl (sN a HLA0.out) (hK _ ?_))
  simp only [Act.put, List.setIfInBounds_toArray, List.set]
  refine upW_call (by rfl) (by rfl) (.agg (byteVals rH24).toArray) _ rfl (by simp) (fun p => ?_) ?_
  · go_big_quiet_op
    exact ⟨_, fun q => Calls.ext_of (HQH24.out q.x), rfl⟩
  simp only [Act.put, List.setIfInBounds_toArray, List.set]
  refine upW_late (by rfl) (.agg (byteVals (zerB 32)).toArray) (fun w => run_zeroN _ _ rfl w) ?_
  simp only [Act.put, List.setIfInBounds_toArray, List.set]
  refine upW_late (by rfl) (.bool true) (fun w => run_eqB _ _ _ _ 24 rfl Try.underlying24 rH24 (zerB 32) rfl rfl HLH24.out (zerB_len 32) (by kernel_rfl) true (decide_eq_true (eq_le HLH24.out (zerB_len 32) (by simp only [HVH24.out, le_zer]; exact (fSub_self _)))) w) ?_
  simp only [Act.put, List.setIfInBounds_toArray, List.set]
  refine upW_val (by rfl) (by rfl) (by rfl) ?_
  intro K hK
  go_big_quiet_op
  refine hK _ ?_
  refine upW_val (by rfl) (by rfl) (by rfl) ?_
  intro K hK
  go_big_quiet_op
  refine hK _ ?_
  refine upW_val (by rfl) (by rfl) (by rfl) (fun K hK => quiet_load_row _ _ rfl M0 rfl 24 _ (0, 0) _ HM0.out Try.underlying24 rfl (sN a HLA0.out) (hK _ ?_))
  simp only [Act.put, List.setIfInBounds_toArray, List.set]
  refine upW_late (by rfl) (.agg (byteVals (zerB 32)).toArray) (fun w => run_zeroN _ _ rfl w) ?_
  simp only [Act.put, List.setIfInBounds_toArray, List.set]
  refine upW_call (by rfl) (by rfl) (.agg (byteVals rH25).toArray) _ rfl (by simp) (fun p => ?_) ?_
  · go_big_quiet_op
    exact ⟨_, fun q => Calls.ext_of (HQH25.out q.x), rfl⟩
  simp only [Act.put, List.setIfInBounds_toArray, List.set]
  refine upW_late (by rfl) (.agg (byteVals (zerB 32)).toArray) (fun w => run_zeroN _ _ rfl w) ?_
  simp only [Act.put, List.setIfInBounds_toArray, List.set]
  refine upW_late (by rfl) (.bool true) (fun w => run_eqB _ _ _ _ 24 rfl Try.underlying24 rH25 (zerB 32) rfl rfl HLH25.out (zerB_len 32) (by kernel_rfl) true (decide_eq_true (eq_le HLH25.out (zerB_len 32) (by simp only [le_zer, HVH25.out]; exact (fMul_zero _ (le_32 a HLA0.out))))) w) ?_
  simp only [Act.put, List.setIfInBounds_toArray, List.set]
  refine upW_val (by rfl) (by rfl) (by rfl) ?_
  intro K hK
  go_big_quiet_op
  refine hK _ ?_
  refine upW_nil (fun w6 hbs => ?_)
  have HF := Lib.hid (HB.out.trans (hbs.mono (show N ≤ _ by have := HB.out.size; have := HN.out; omega)))
  clear hbs
  go_wp2
  go_ret
  exact ⟨rfl, HN.out.symm ▸ HF.out⟩
theorem fieldLaws_own : ownKnob Try.prog.godebug = none := by kernel_rfl

set_option maxRecDepth 100000 in
theorem fieldLaws_lifted (os : Os) (started : os.Started) (H : Type) (enc : TypeId × Value → H) :
    ReturnsInHanded {} Try.checked os 5 .any (Rows.fieldLawsSpec.pre6 enc Try.prog Try.f5 Rows.fieldLawsRow.domain false) (Rows.fieldLawsSpec.post enc Try.prog Try.f5 false true false false) := by
  refine returnsInHanded_of_change (C := Try.checked) fieldLaws_own started (by kernel_rfl) Try.func5
    (ChangeSpec.witness6 (enc := enc) (C := Try.checked) false ⟨#[], #[.agg (Array.replicate 32 (.int .u8 0)), .agg (Array.replicate 32 (.int .u8 0)), .agg (Array.replicate 32 (.int .u8 0))], []⟩ 8 (by kernel_rfl) (by kernel_rfl) (by kernel_rfl) (by kernel_rfl)) ?_
  intro W base args ds gs before hval0 hW hcnd _
  have hval : ∀ (j : Nat) t v, Try.f5.params[j]? = some t → args[j]? = some v → Value.okWide Try.prog W .any base t v := hval0
  have hW' := hW
  obtain ⟨p, q, hA0, hV, rfl, hfz, hnd⟩ := hW
  have hA : DataW.TrodAll enc Try.prog W 0 (fun _ => true) true Try.f5.params.toList args.toList ds p := hA0
  rw [Try.params5] at hA hval
  obtain ⟨v0, vs0, d0, ds0, p0, q0, hargs, rfl, rfl, h0, r0⟩ := trodAll_cons hA
  obtain ⟨v1, vs1, d1, ds1, p1, q1, rfl, rfl, rfl, h1, r1⟩ := trodAll_cons r0
  obtain ⟨v2, vs2, d2, ds2, p2, q2, rfl, rfl, rfl, h2, r2⟩ := trodAll_cons r1
  obtain ⟨rfl, rfl, rfl⟩ := trodAll_nil r2
  obtain rfl : args = #[v0, v1, v2] := by cases args; simp_all
  obtain ⟨rfl, rfl⟩ := trodVars_none hV
  obtain ⟨a0, hl0, rfl, rfl, rfl⟩ := open_arr8 Try.underlying23 Try.underlying5 (by kernel_rfl) (by kernel_rfl) (hval 0 23 v0 rfl rfl) h0
  obtain ⟨a1, hl1, rfl, rfl, rfl⟩ := open_arr8 Try.underlying23 Try.underlying5 (by kernel_rfl) (by kernel_rfl) (hval 1 23 v1 rfl rfl) h1
  obtain ⟨a2, hl2, rfl, rfl, rfl⟩ := open_arr8 Try.underlying23 Try.underlying5 (by kernel_rfl) (by kernel_rfl) (hval 2 23 v2 rfl rfl) h2
  clear hA0 hval0
  simp only [List.append_nil] at hW'
  refine (fieldLaws_true a0 a1 a2 W hl0 hl1 hl2).mono fun e W' ⟨he, bel⟩ => ?_
  subst he
  exact ⟨_, rfl, _, _, _, [], [], [], hW', trodAll_mk1 (shut_bool Try.underlying4 _), (trodAll_cons_mk (shut_arr8 Try.underlying23 Try.underlying5 (by kernel_rfl) (by kernel_rfl) a0 hl0) (trodAll_cons_mk (shut_arr8 Try.underlying23 Try.underlying5 (by kernel_rfl) (by kernel_rfl) a1 hl1) (trodAll_cons_mk (shut_arr8 Try.underlying23 Try.underlying5 (by kernel_rfl) (by kernel_rfl) a2 hl2) trodAll_mk0))), rfl, bel.frame _, fun h => by cases h⟩

theorem fieldLaws_holds : Rows.FieldLawsSaid :=
  OpenClaim.holds_of_wide 5 Try.f5 rfl rfl rfl rfl rfl rfl rfl ⟨rfl, rfl, rfl, rfl, rfl⟩ rfl rfl rfl rfl rfl (by kernel_rfl) Try.func5 (by kernel_rfl)
    (of_decide_eq_true (by kernel_rfl)) (by unfold Func.isWrapper; first | (rw [if_pos (by decide +kernel)]; kernel_rfl) | (rw [if_neg (by decide +kernel)]; exact ⟨rfl, rfl⟩))
    (fun os started H enc _ => fieldLaws_lifted os started H enc)
#print axioms fieldLaws_holds

end Go.Proofs.Ytinacaflhphmkaa
