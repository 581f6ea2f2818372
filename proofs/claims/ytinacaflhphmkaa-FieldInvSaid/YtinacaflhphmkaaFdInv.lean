/-
  FieldInv: what is not nought times what undoes it is 1; of a product it is the product of both; undone twice it is as it was.
  Conditions: none.
-/
import Derived.Test.YtinacaflhphmkaaFdAw
import Derived.Test.YtinacaflhphmkaaFdNum
import Derived.Test.YtinacaflhphmkaaFdO
namespace Go.Proofs.Ytinacaflhphmkaa
open Go.RowKit

open Go.ChangeShapes Go.WideShapes Go.ChangeAt
set_option maxRecDepth 100000 in
set_option maxHeartbeats 1000000 in
theorem fieldInv_true (a b : List UInt8) (w : World) (hla : a.length = 32) (hlb : b.length = 32) :
    Calls Try.prog 6 #[.agg (byteVals a).toArray, .agg (byteVals b).toArray] w fun e w' => e = .returned (.bool true) ∧ Below w.heap.size w w' := by
  have HLA0 := Lib.hid hla
  have HLA1 := Lib.hid hlb
  have hz := zN
  clear hla hlb
  by_cases hzz : le a % 57896044618658097711785492504343953926634992332820282019728792003956564819949 = 0
  · have HZ := Lib.hid hzz
    clear hzz
    obtain ⟨rH1, hrH1⟩ : ∃ r, b32 (fInv (le a)) = r := ⟨_, rfl⟩
    have HQH1 := Lib.hid (fun w => Inv_any a w HLA0.out)
    rw [hrH1] at HQH1
    have HLH1 := Lib.hid (show rH1.length = 32 by rw [← hrH1]; exact b32_len _)
    have HVH1 := Lib.hid (show le rH1 = fInv (le a) by rw [← hrH1]; exact le_b32 _ (lt4 (fInv_lt _ )))
    clear hrH1
    obtain ⟨rH2, hrH2⟩ : ∃ r, b32 (fMul (le a) (le rH1)) = r := ⟨_, rfl⟩
    have HQH2 := Lib.hid (fun w => Mul_any a rH1 w HLA0.out HLH1.out)
    rw [hrH2] at HQH2
    have HLH2 := Lib.hid (show rH2.length = 32 by rw [← hrH2]; exact b32_len _)
    have HVH2 := Lib.hid (show le rH2 = fMul (le a) (le rH1) by rw [← hrH2]; exact le_b32 _ (lt4 (fMul_lt _ _ )))
    clear hrH2
    obtain ⟨rH3, hrH3⟩ : ∃ r, b32 (le a % 57896044618658097711785492504343953926634992332820282019728792003956564819949) = r := ⟨_, rfl⟩
    have HQH3 := Lib.hid (fun w => Rest_any a w HLA0.out)
    rw [hrH3] at HQH3
    have HLH3 := Lib.hid (show rH3.length = 32 by rw [← hrH3]; exact b32_len _)
    have HVH3 := Lib.hid (show le rH3 = le a % 57896044618658097711785492504343953926634992332820282019728792003956564819949 by rw [← hrH3]; exact le_b32 _ (lt4 (Nat.mod_lt _ P_pos)))
    clear hrH3
    obtain ⟨rH4, hrH4⟩ : ∃ r, b32 (fInv (le a)) = r := ⟨_, rfl⟩
    have HQH4 := Lib.hid (fun w => Inv_any a w HLA0.out)
    rw [hrH4] at HQH4
    have HLH4 := Lib.hid (show rH4.length = 32 by rw [← hrH4]; exact b32_len _)
    have HVH4 := Lib.hid (show le rH4 = fInv (le a) by rw [← hrH4]; exact le_b32 _ (lt4 (fInv_lt _ )))
    clear hrH4
    go_enter Try.func6, Try.ntmps6
    go_upto_region 1 with fail
    generalize hW1 : World.alloc _ _ = W1
    obtain ⟨N, hN⟩ : ∃ n, w.heap.size = n := ⟨_, rfl⟩
    have HX0 := Lib.hid (show BT W1 N 23 a by subst hW1; rw [← hN]; exact (alloc2_at w _ _).1)
    have HX1 := Lib.hid (show BT W1 (N + 1) 23 b by subst hW1; rw [← hN]; exact (alloc2_at w _ _).2)
    have HB := Lib.hid (show Below N w W1 by subst hW1; rw [← hN]; exact ((Below.refl _ w).alloc (Nat.le_refl _) _).alloc (by simp) _)
    have HN := Lib.hid hN
    rw [hN]
    clear hW1 hN
    go_wp2_with fail
    refine (awake_any _).mono ?_
    rintro e wa ⟨rfl, hba⟩
    have HX0' := Lib.hid (HX0.out.ext hba)
    have HX1' := Lib.hid (HX1.out.ext hba)
    have HB' := Lib.hid (HB.out.trans (hba.mono (show N ≤ _ by have := HX0.out.lt; omega)))
    clear hba HB HX0 HX1
    have HB := HB'
    have HX0 := HX0'
    have HX1 := HX1'
    clear HB' HX0' HX1'
    go_wp2_with fail
    refine wp_region_whole [0, 1] [⟨2, _, 24, (byteVals (zerB 32)).toArray, 5, 4, _, 24, 10, (byteVals a).toArray⟩, ⟨3, _, 24, (byteVals (zerB 32)).toArray, 6, 5, _, 24, 11, (byteVals b).toArray⟩] [5, 4, 3, 2] (by kernel_rfl) (by kernel_rfl) (List.forall_mem_cons.2 ⟨⟨⟨rfl, rfl, rfl, fun a w => run_allocN a _ rfl w⟩, rfl, rfl, rfl, rfl, sN a HLA0.out, oN (zerB 32) a (zerB_len 32) HLA0.out, byteVals_one _⟩, (List.forall_mem_cons.2 ⟨⟨⟨rfl, rfl, rfl, fun a w => run_allocN a _ rfl w⟩, rfl, rfl, rfl, rfl, sN b HLA1.out, oN (zerB 32) b (zerB_len 32) HLA1.out, byteVals_one _⟩, (List.forall_mem_nil _)⟩)⟩) rfl ?_
    simp only [List.foldl, List.eraseIdx_cons_succ, List.eraseIdx_cons_zero]
    refine upW_val (by rfl) (by rfl) (by rfl) (fun K hK => quiet_load_row _ _ rfl N rfl 23 _ (0, 0) _ HX0.out Try.underlying23 rfl (sB a HLA0.out) (hK _ ?_))
    simp only [Act.put, List.setIfInBounds_toArray, List.set]
    refine upW_val (by rfl) (by rfl) (by rfl) (fun K hK => quiet_load_row _ _ rfl (N + 1) rfl 23 _ (0, 0) _ HX1.out Try.underlying23 rfl (sB b HLA1.out) (hK _ ?_))
    simp only [Act.put, List.setIfInBounds_toArray, List.set]
    refine upW_nil ⟨(List.forall_mem_cons.2 ⟨rfl, (List.forall_mem_cons.2 ⟨rfl, (List.forall_mem_nil _)⟩)⟩), fun M w3 hM hne hbs => ?_⟩
    have hm0 := hM _ (List.mem_cons_self ..)
    have hm1 := hM _ (List.mem_cons_of_mem _ (List.mem_cons_self ..))
    have hn01 : M 2 ≠ M 3 := hne _ (List.mem_cons_self ..) _ (List.mem_cons_of_mem _ (List.mem_cons_self ..)) (show (2 : Nat) ≠ 3 by decide)
    clear hM hne
    simp only [List.foldr, pS, Act.put, List.setIfInBounds_toArray, List.set]
    obtain ⟨M0, hM0⟩ : ∃ m, M 2 = m := ⟨_, rfl⟩
    have HM0 := Lib.hid (show BT w3 M0 24 a by rw [← hM0]; exact hm0.2)
    obtain ⟨M1, hM1⟩ : ∃ m, M 3 = m := ⟨_, rfl⟩
    have HM1 := Lib.hid (show BT w3 M1 24 b by rw [← hM1]; exact hm1.2)
    rw [hM0, hM1] at hn01
    rw [hM0, hM1]
    clear hm0 hM0 hm1 hM1
    have HX0' := Lib.hid (HX0.out.ext hbs)
    have HX1' := Lib.hid (HX1.out.ext hbs)
    have HB' := Lib.hid (HB.out.trans (hbs.mono (show N ≤ _ by have := HB.out.size; have := HN.out; omega)))
    clear hbs HB HX0 HX1
    have HB := HB'
    have HX0 := HX0'
    have HX1 := HX1'
    clear HB' HX0' HX1'
    go_wp2_with fail
    refine wp_region_upA 5 5 4 [0, 1, 2, 3] _ (.cells ((byteVals (zerB 32)).toArray) 24) (by kernel_rfl) (by kernel_rfl) (fun _ _ dst _ _ h => by cases dst <;> exact h) rfl (fun a w K hK => wpOp_of_run rfl rfl (run_allocN a _ rfl w) hK) rfl ?_
    simp only [List.take_succ_cons, List.take_zero, List.drop_succ_cons, List.drop_zero, List.eraseIdx_cons_succ, List.eraseIdx_cons_zero]
    refine upW_val (by rfl) (by rfl) (by rfl) (fun K hK => quiet_load_row _ _ rfl M0 rfl 24 _ (0, 0) _ HM0.out Try.underlying24 rfl (sN a HLA0.out) (hK _ ?_))
    simp only [Act.put, List.setIfInBounds_toArray, List.set]
    refine upW_val (by rfl) (by rfl) (by rfl) (fun K hK => quiet_load_row _ _ rfl M0 rfl 24 _ (0, 0) _ HM0.out Try.underlying24 rfl (sN a HLA0.out) (hK _ ?_))
    simp only [Act.put, List.setIfInBounds_toArray, List.set]
    refine upW_call (by rfl) (by rfl) (.agg (byteVals rH1).toArray) _ rfl (by simp) (fun p => ?_) ?_
    · go_big_quiet_op
      exact ⟨_, fun q => Calls.ext_of (HQH1.out q.x), rfl⟩
    simp only [Act.put, List.setIfInBounds_toArray, List.set]
    refine upW_call (by rfl) (by rfl) (.agg (byteVals rH2).toArray) _ rfl (by simp) (fun p => ?_) ?_
    · go_big_quiet_op
      exact ⟨_, fun q => Calls.ext_of (HQH2.out q.x), rfl⟩
    simp only [Act.put, List.setIfInBounds_toArray, List.set]
    refine upW_nil (fun M wm hM hbs hom => ?_)
    simp only [List.setIfInBounds_toArray]
    have HOM := Lib.hid hom
    have HM0' := Lib.hid (HM0.out.ext hbs)
    have HM0n := Nat.lt_of_lt_of_le HM0.out.lt hM
    have HM1' := Lib.hid (HM1.out.ext hbs)
    have HM1n := Nat.lt_of_lt_of_le HM1.out.lt hM
    have HB' := Lib.hid (HB.out.trans (hbs.mono (show N ≤ _ by have := HB.out.size; have := HN.out; omega)))
    have HNM : N ≤ M := by have := HB.out.size; have := HN.out; omega
    clear hom hbs HB HM0 HM1
    go_wp2_with (refine wpList_store_row rfl 24 _ _ rfl M ((byteVals rH2).toArray) rfl rfl 24 _ HOM.out (sN rH2 HLH2.out) (oN (zerB 32) rH2 (zerB_len 32) HLH2.out) (byteVals_one _) (Stop.out ?_))
    generalize hWS : World.setRow _ _ _ = w4q
    have HM2 := Lib.hid (show BT w4q M 24 rH2 by subst hWS; exact setRow_heap _ _ _ _ _ _ HOM.out)
    have HM0 := Lib.hid (HM0'.out.other (show w4q.heap[_]? = _ by subst hWS; exact setRow_other _ _ _ _ (by omega)))
    have HM1 := Lib.hid (HM1'.out.other (show w4q.heap[_]? = _ by subst hWS; exact setRow_other _ _ _ _ (by omega)))
    have HB := Lib.hid (show Below N w w4q by subst hWS; exact Below.setRow HB'.out HNM _)
    clear hWS HB' HOM hM HNM HM0' HM0n HM1' HM1n
    refine ⟨?_⟩
    obtain ⟨M2, hM2⟩ : ∃ m, M = m := ⟨_, rfl⟩
    rw [hM2] at HM2 ⊢
    clear hM2
    go_upto_region 5 with fail
    refine wp_region_seq 4 ?_
    simp only [List.take_succ_cons, List.take_zero, List.drop_succ_cons, List.drop_zero]
    refine upW_val (by rfl) (by rfl) (by rfl) (fun K hK => quiet_load_row _ _ rfl M0 rfl 24 _ (0, 0) _ HM0.out Try.underlying24 rfl (sN a HLA0.out) (hK _ ?_))
    simp only [Act.put, List.setIfInBounds_toArray, List.set]
    refine upW_call (by rfl) (by rfl) (.agg (byteVals rH3).toArray) _ rfl (by simp) (fun p => ?_) ?_
    · go_big_quiet_op
      exact ⟨_, fun q => Calls.ext_of (HQH3.out q.x), rfl⟩
    simp only [Act.put, List.setIfInBounds_toArray, List.set]
    refine upW_late (by rfl) (.agg (byteVals (zerB 32)).toArray) (fun w => run_zeroN _ _ rfl w) ?_
    simp only [Act.put, List.setIfInBounds_toArray, List.set]
    refine upW_late (by rfl) (.bool true) (fun w => run_eqB _ _ _ _ 24 rfl Try.underlying24 rH3 (zerB 32) rfl rfl HLH3.out (zerB_len 32) (by kernel_rfl) true (decide_eq_true (eq_le HLH3.out (zerB_len 32) (by simp only [HVH3.out, le_zer]; exact HZ.out))) w) ?_
    simp only [Act.put, List.setIfInBounds_toArray, List.set]
    refine upW_nil (fun w5 hbs => ?_)
    have HM0' := Lib.hid (HM0.out.ext hbs)
    have HM1' := Lib.hid (HM1.out.ext hbs)
    have HM2' := Lib.hid (HM2.out.ext hbs)
    have HB' := Lib.hid (HB.out.trans (hbs.mono (show N ≤ _ by have := HB.out.size; have := HN.out; omega)))
    clear hbs HB HM0 HM1 HM2
    have HB := HB'
    have HM0 := HM0'
    have HM1 := HM1'
    have HM2 := HM2'
    clear HB' HM0' HM1' HM2'
    go_upto_region 6 with fail
    refine wp_region_seq 9 ?_
    simp only [List.take_succ_cons, List.take_zero, List.drop_succ_cons, List.drop_zero]
    refine upW_val (by rfl) (by rfl) (by rfl) (fun K hK => quiet_load_row _ _ rfl M2 rfl 24 _ (0, 0) _ HM2.out Try.underlying24 rfl (sN rH2 HLH2.out) (hK _ ?_))
    simp only [Act.put, List.setIfInBounds_toArray, List.set]
    refine upW_late (by rfl) (.agg (byteVals (zerB 32)).toArray) (fun w => run_zeroN _ _ rfl w) ?_
    simp only [Act.put, List.setIfInBounds_toArray, List.set]
    refine upW_late (by rfl) (.bool true) (fun w => run_eqB _ _ _ _ 24 rfl Try.underlying24 rH2 (zerB 32) rfl rfl HLH2.out (zerB_len 32) (by kernel_rfl) true (decide_eq_true (eq_le HLH2.out (zerB_len 32) (by simp only [HVH1.out, HVH2.out, le_zer]; exact (by rw [fInv_nought _ (le_32 a HLA0.out) HZ.out]; exact fMul_zero _ (le_32 a HLA0.out))))) w) ?_
    simp only [Act.put, List.setIfInBounds_toArray, List.set]
    refine upW_val (by rfl) (by rfl) (by rfl) ?_
    intro K hK
    go_big_quiet_op
    refine hK _ ?_
    refine upW_val (by rfl) (by rfl) (by rfl) (fun K hK => quiet_load_row _ _ rfl M0 rfl 24 _ (0, 0) _ HM0.out Try.underlying24 rfl (sN a HLA0.out) (hK _ ?_))
    simp only [Act.put, List.setIfInBounds_toArray, List.set]
    refine upW_call (by rfl) (by rfl) (.agg (byteVals rH4).toArray) _ rfl (by simp) (fun p => ?_) ?_
    · go_big_quiet_op
      exact ⟨_, fun q => Calls.ext_of (HQH4.out q.x), rfl⟩
    simp only [Act.put, List.setIfInBounds_toArray, List.set]
    refine upW_late (by rfl) (.agg (byteVals (zerB 32)).toArray) (fun w => run_zeroN _ _ rfl w) ?_
    simp only [Act.put, List.setIfInBounds_toArray, List.set]
    refine upW_late (by rfl) (.bool true) (fun w => run_eqB _ _ _ _ 24 rfl Try.underlying24 rH4 (zerB 32) rfl rfl HLH4.out (zerB_len 32) (by kernel_rfl) true (decide_eq_true (eq_le HLH4.out (zerB_len 32) (by simp only [HVH4.out, le_zer]; exact (fInv_nought _ (le_32 a HLA0.out) HZ.out)))) w) ?_
    simp only [Act.put, List.setIfInBounds_toArray, List.set]
    refine upW_val (by rfl) (by rfl) (by rfl) ?_
    intro K hK
    go_big_quiet_op
    refine hK _ ?_
    refine upW_nil (fun w6 hbs => ?_)
    have HF := Lib.hid (HB.out.trans (hbs.mono (show N ≤ _ by have := HB.out.size; have := HN.out; omega)))
    clear hbs
    go_wp2
    go_ret
    exact ⟨rfl, HN.out.symm ▸ HF.out⟩
  · have HZ := Lib.hid hzz
    clear hzz
    obtain ⟨rH1, hrH1⟩ : ∃ r, b32 (fInv (le a)) = r := ⟨_, rfl⟩
    have HQH1 := Lib.hid (fun w => Inv_any a w HLA0.out)
    rw [hrH1] at HQH1
    have HLH1 := Lib.hid (show rH1.length = 32 by rw [← hrH1]; exact b32_len _)
    have HVH1 := Lib.hid (show le rH1 = fInv (le a) by rw [← hrH1]; exact le_b32 _ (lt4 (fInv_lt _ )))
    clear hrH1
    obtain ⟨rH2, hrH2⟩ : ∃ r, b32 (fMul (le a) (le rH1)) = r := ⟨_, rfl⟩
    have HQH2 := Lib.hid (fun w => Mul_any a rH1 w HLA0.out HLH1.out)
    rw [hrH2] at HQH2
    have HLH2 := Lib.hid (show rH2.length = 32 by rw [← hrH2]; exact b32_len _)
    have HVH2 := Lib.hid (show le rH2 = fMul (le a) (le rH1) by rw [← hrH2]; exact le_b32 _ (lt4 (fMul_lt _ _ )))
    clear hrH2
    obtain ⟨rH3, hrH3⟩ : ∃ r, b32 (le a % 57896044618658097711785492504343953926634992332820282019728792003956564819949) = r := ⟨_, rfl⟩
    have HQH3 := Lib.hid (fun w => Rest_any a w HLA0.out)
    rw [hrH3] at HQH3
    have HLH3 := Lib.hid (show rH3.length = 32 by rw [← hrH3]; exact b32_len _)
    have HVH3 := Lib.hid (show le rH3 = le a % 57896044618658097711785492504343953926634992332820282019728792003956564819949 by rw [← hrH3]; exact le_b32 _ (lt4 (Nat.mod_lt _ P_pos)))
    clear hrH3
    obtain ⟨rH4, hrH4⟩ : ∃ r, b32 1 = r := ⟨_, rfl⟩
    have HQH4 : Hid (∀ w, Calls Try.prog 11 #[.int .u64 1] w fun e w' => e = .returned (.agg (byteVals rH4).toArray) ∧ Below w.heap.size w w') := Lib.hid (fun w => by have := Of_any 1 w (by decide); rw [hrH4] at this; exact this)
    have HLH4 := Lib.hid (show rH4.length = 32 by rw [← hrH4]; exact b32_len _)
    have HVH4 := Lib.hid (show le rH4 = 1 by rw [← hrH4]; exact le_b32 _ (by decide))
    clear hrH4
    obtain ⟨rH5, hrH5⟩ : ∃ r, b32 (fInv (le a)) = r := ⟨_, rfl⟩
    have HQH5 := Lib.hid (fun w => Inv_any a w HLA0.out)
    rw [hrH5] at HQH5
    have HLH5 := Lib.hid (show rH5.length = 32 by rw [← hrH5]; exact b32_len _)
    have HVH5 := Lib.hid (show le rH5 = fInv (le a) by rw [← hrH5]; exact le_b32 _ (lt4 (fInv_lt _ )))
    clear hrH5
    obtain ⟨rH6, hrH6⟩ : ∃ r, b32 (fInv (le rH5)) = r := ⟨_, rfl⟩
    have HQH6 := Lib.hid (fun w => Inv_any rH5 w HLH5.out)
    rw [hrH6] at HQH6
    have HLH6 := Lib.hid (show rH6.length = 32 by rw [← hrH6]; exact b32_len _)
    have HVH6 := Lib.hid (show le rH6 = fInv (le rH5) by rw [← hrH6]; exact le_b32 _ (lt4 (fInv_lt _ )))
    clear hrH6
    obtain ⟨rH7, hrH7⟩ : ∃ r, b32 (le a % 57896044618658097711785492504343953926634992332820282019728792003956564819949) = r := ⟨_, rfl⟩
    have HQH7 := Lib.hid (fun w => Rest_any a w HLA0.out)
    rw [hrH7] at HQH7
    have HLH7 := Lib.hid (show rH7.length = 32 by rw [← hrH7]; exact b32_len _)
    have HVH7 := Lib.hid (show le rH7 = le a % 57896044618658097711785492504343953926634992332820282019728792003956564819949 by rw [← hrH7]; exact le_b32 _ (lt4 (Nat.mod_lt _ P_pos)))
    clear hrH7
    obtain ⟨rH8, hrH8⟩ : ∃ r, b32 (fMul (le a) (le b)) = r := ⟨_, rfl⟩
    have HQH8 := Lib.hid (fun w => Mul_any a b w HLA0.out HLA1.out)
    rw [hrH8] at HQH8
    have HLH8 := Lib.hid (show rH8.length = 32 by rw [← hrH8]; exact b32_len _)
    have HVH8 := Lib.hid (show le rH8 = fMul (le a) (le b) by rw [← hrH8]; exact le_b32 _ (lt4 (fMul_lt _ _ )))
    clear hrH8
    obtain ⟨rH9, hrH9⟩ : ∃ r, b32 (fInv (le rH8)) = r := ⟨_, rfl⟩
    have HQH9 := Lib.hid (fun w => Inv_any rH8 w HLH8.out)
    rw [hrH9] at HQH9
    have HLH9 := Lib.hid (show rH9.length = 32 by rw [← hrH9]; exact b32_len _)
    have HVH9 := Lib.hid (show le rH9 = fInv (le rH8) by rw [← hrH9]; exact le_b32 _ (lt4 (fInv_lt _ )))
    clear hrH9
    obtain ⟨rH10, hrH10⟩ : ∃ r, b32 (fInv (le a)) = r := ⟨_, rfl⟩
    have HQH10 := Lib.hid (fun w => Inv_any a w HLA0.out)
    rw [hrH10] at HQH10
    have HLH10 := Lib.hid (show rH10.length = 32 by rw [← hrH10]; exact b32_len _)
    have HVH10 := Lib.hid (show le rH10 = fInv (le a) by rw [← hrH10]; exact le_b32 _ (lt4 (fInv_lt _ )))
    clear hrH10
    obtain ⟨rH11, hrH11⟩ : ∃ r, b32 (fInv (le b)) = r := ⟨_, rfl⟩
    have HQH11 := Lib.hid (fun w => Inv_any b w HLA1.out)
    rw [hrH11] at HQH11
    have HLH11 := Lib.hid (show rH11.length = 32 by rw [← hrH11]; exact b32_len _)
    have HVH11 := Lib.hid (show le rH11 = fInv (le b) by rw [← hrH11]; exact le_b32 _ (lt4 (fInv_lt _ )))
    clear hrH11
    obtain ⟨rH12, hrH12⟩ : ∃ r, b32 (fMul (le rH10) (le rH11)) = r := ⟨_, rfl⟩
    have HQH12 := Lib.hid (fun w => Mul_any rH10 rH11 w HLH10.out HLH11.out)
    rw [hrH12] at HQH12
    have HLH12 := Lib.hid (show rH12.length = 32 by rw [← hrH12]; exact b32_len _)
    have HVH12 := Lib.hid (show le rH12 = fMul (le rH10) (le rH11) by rw [← hrH12]; exact le_b32 _ (lt4 (fMul_lt _ _ )))
    clear hrH12
    obtain ⟨rH13, hrH13⟩ : ∃ r, b32 (fInv (le a)) = r := ⟨_, rfl⟩
    have HQH13 := Lib.hid (fun w => Inv_any a w HLA0.out)
    rw [hrH13] at HQH13
    have HLH13 := Lib.hid (show rH13.length = 32 by rw [← hrH13]; exact b32_len _)
    have HVH13 := Lib.hid (show le rH13 = fInv (le a) by rw [← hrH13]; exact le_b32 _ (lt4 (fInv_lt _ )))
    clear hrH13
    have HQH14 := Lib.hid (fun w => Good_any rH13 w HLH13.out)
    rw [show decide (le rH13 < 57896044618658097711785492504343953926634992332820282019728792003956564819949) = true from (decide_eq_true (by rw [HVH13.out]; exact fInv_lt _))] at HQH14
    go_enter Try.func6, Try.ntmps6
    go_upto_region 1 with fail
    generalize hW1 : World.alloc _ _ = W1
    obtain ⟨N, hN⟩ : ∃ n, w.heap.size = n := ⟨_, rfl⟩
    have HX0 := Lib.hid (show BT W1 N 23 a by subst hW1; rw [← hN]; exact (alloc2_at w _ _).1)
    have HX1 := Lib.hid (show BT W1 (N + 1) 23 b by subst hW1; rw [← hN]; exact (alloc2_at w _ _).2)
    have HB := Lib.hid (show Below N w W1 by subst hW1; rw [← hN]; exact ((Below.refl _ w).alloc (Nat.le_refl _) _).alloc (by simp) _)
    have HN := Lib.hid hN
    rw [hN]
    clear hW1 hN
    go_wp2_with fail
    refine (awake_any _).mono ?_
    rintro e wa ⟨rfl, hba⟩
    have HX0' := Lib.hid (HX0.out.ext hba)
    have HX1' := Lib.hid (HX1.out.ext hba)
    have HB' := Lib.hid (HB.out.trans (hba.mono (show N ≤ _ by have := HX0.out.lt; omega)))
    clear hba HB HX0 HX1
    have HB := HB'
    have HX0 := HX0'
    have HX1 := HX1'
    clear HB' HX0' HX1'
    go_wp2_with fail
    refine wp_region_whole [0, 1] [⟨2, _, 24, (byteVals (zerB 32)).toArray, 5, 4, _, 24, 10, (byteVals a).toArray⟩, ⟨3, _, 24, (byteVals (zerB 32)).toArray, 6, 5, _, 24, 11, (byteVals b).toArray⟩] [5, 4, 3, 2] (by kernel_rfl) (by kernel_rfl) (List.forall_mem_cons.2 ⟨⟨⟨rfl, rfl, rfl, fun a w => run_allocN a _ rfl w⟩, rfl, rfl, rfl, rfl, sN a HLA0.out, oN (zerB 32) a (zerB_len 32) HLA0.out, byteVals_one _⟩, (List.forall_mem_cons.2 ⟨⟨⟨rfl, rfl, rfl, fun a w => run_allocN a _ rfl w⟩, rfl, rfl, rfl, rfl, sN b HLA1.out, oN (zerB 32) b (zerB_len 32) HLA1.out, byteVals_one _⟩, (List.forall_mem_nil _)⟩)⟩) rfl ?_
    simp only [List.foldl, List.eraseIdx_cons_succ, List.eraseIdx_cons_zero]
    refine upW_val (by rfl) (by rfl) (by rfl) (fun K hK => quiet_load_row _ _ rfl N rfl 23 _ (0, 0) _ HX0.out Try.underlying23 rfl (sB a HLA0.out) (hK _ ?_))
    simp only [Act.put, List.setIfInBounds_toArray, List.set]
    refine upW_val (by rfl) (by rfl) (by rfl) (fun K hK => quiet_load_row _ _ rfl (N + 1) rfl 23 _ (0, 0) _ HX1.out Try.underlying23 rfl (sB b HLA1.out) (hK _ ?_))
    simp only [Act.put, List.setIfInBounds_toArray, List.set]
    refine upW_nil ⟨(List.forall_mem_cons.2 ⟨rfl, (List.forall_mem_cons.2 ⟨rfl, (List.forall_mem_nil _)⟩)⟩), fun M w3 hM hne hbs => ?_⟩
    have hm0 := hM _ (List.mem_cons_self ..)
    have hm1 := hM _ (List.mem_cons_of_mem _ (List.mem_cons_self ..))
    have hn01 : M 2 ≠ M 3 := hne _ (List.mem_cons_self ..) _ (List.mem_cons_of_mem _ (List.mem_cons_self ..)) (show (2 : Nat) ≠ 3 by decide)
    clear hM hne
    simp only [List.foldr, pS, Act.put, List.setIfInBounds_toArray, List.set]
    obtain ⟨M0, hM0⟩ : ∃ m, M 2 = m := ⟨_, rfl⟩
    have HM0 := Lib.hid (show BT w3 M0 24 a by rw [← hM0]; exact hm0.2)
    obtain ⟨M1, hM1⟩ : ∃ m, M 3 = m := ⟨_, rfl⟩
    have HM1 := Lib.hid (show BT w3 M1 24 b by rw [← hM1]; exact hm1.2)
    rw [hM0, hM1] at hn01
    rw [hM0, hM1]
    clear hm0 hM0 hm1 hM1
    have HX0' := Lib.hid (HX0.out.ext hbs)
    have HX1' := Lib.hid (HX1.out.ext hbs)
    have HB' := Lib.hid (HB.out.trans (hbs.mono (show N ≤ _ by have := HB.out.size; have := HN.out; omega)))
    clear hbs HB HX0 HX1
    have HB := HB'
    have HX0 := HX0'
    have HX1 := HX1'
    clear HB' HX0' HX1'
    go_wp2_with fail
    refine wp_region_upA 5 5 4 [0, 1, 2, 3] _ (.cells ((byteVals (zerB 32)).toArray) 24) (by kernel_rfl) (by kernel_rfl) (fun _ _ dst _ _ h => by cases dst <;> exact h) rfl (fun a w K hK => wpOp_of_run rfl rfl (run_allocN a _ rfl w) hK) rfl ?_
    simp only [List.take_succ_cons, List.take_zero, List.drop_succ_cons, List.drop_zero, List.eraseIdx_cons_succ, List.eraseIdx_cons_zero]
    refine upW_val (by rfl) (by rfl) (by rfl) (fun K hK => quiet_load_row _ _ rfl M0 rfl 24 _ (0, 0) _ HM0.out Try.underlying24 rfl (sN a HLA0.out) (hK _ ?_))
    simp only [Act.put, List.setIfInBounds_toArray, List.set]
    refine upW_val (by rfl) (by rfl) (by rfl) (fun K hK => quiet_load_row _ _ rfl M0 rfl 24 _ (0, 0) _ HM0.out Try.underlying24 rfl (sN a HLA0.out) (hK _ ?_))
    simp only [Act.put, List.setIfInBounds_toArray, List.set]
    refine upW_call (by rfl) (by rfl) (.agg (byteVals rH1).toArray) _ rfl (by simp) (fun p => ?_) ?_
    · go_big_quiet_op
      exact ⟨_, fun q => Calls.ext_of (HQH1.out q.x), rfl⟩
    simp only [Act.put, List.setIfInBounds_toArray, List.set]
    refine upW_call (by rfl) (by rfl) (.agg (byteVals rH2).toArray) _ rfl (by simp) (fun p => ?_) ?_
    · go_big_quiet_op
      exact ⟨_, fun q => Calls.ext_of (HQH2.out q.x), rfl⟩
    simp only [Act.put, List.setIfInBounds_toArray, List.set]
    refine upW_nil (fun M wm hM hbs hom => ?_)
    simp only [List.setIfInBounds_toArray]
    have HOM := Lib.hid hom
    have HM0' := Lib.hid (HM0.out.ext hbs)
    have HM0n := Nat.lt_of_lt_of_le HM0.out.lt hM
    have HM1' := Lib.hid (HM1.out.ext hbs)
    have HM1n := Nat.lt_of_lt_of_le HM1.out.lt hM
    have HB' := Lib.hid (HB.out.trans (hbs.mono (show N ≤ _ by have := HB.out.size; have := HN.out; omega)))
    have HNM : N ≤ M := by have := HB.out.size; have := HN.out; omega
    clear hom hbs HB HM0 HM1
    go_wp2_with (refine wpList_store_row rfl 24 _ _ rfl M ((byteVals rH2).toArray) rfl rfl 24 _ HOM.out (sN rH2 HLH2.out) (oN (zerB 32) rH2 (zerB_len 32) HLH2.out) (byteVals_one _) (Stop.out ?_))
    generalize hWS : World.setRow _ _ _ = w4q
    have HM2 := Lib.hid (show BT w4q M 24 rH2 by subst hWS; exact setRow_heap _ _ _ _ _ _ HOM.out)
    have HM0 := Lib.hid (HM0'.out.other (show w4q.heap[_]? = _ by subst hWS; exact setRow_other _ _ _ _ (by omega)))
    have HM1 := Lib.hid (HM1'.out.other (show w4q.heap[_]? = _ by subst hWS; exact setRow_other _ _ _ _ (by omega)))
    have HB := Lib.hid (show Below N w w4q by subst hWS; exact Below.setRow HB'.out HNM _)
    clear hWS HB' HOM hM HNM HM0' HM0n HM1' HM1n
    refine ⟨?_⟩
    obtain ⟨M2, hM2⟩ : ∃ m, M = m := ⟨_, rfl⟩
    rw [hM2] at HM2 ⊢
    clear hM2
    go_upto_region 5 with fail
    refine wp_region_seq 4 ?_
    simp only [List.take_succ_cons, List.take_zero, List.drop_succ_cons, List.drop_zero]
    refine upW_val (by rfl) (by rfl) (by rfl) (fun K hK => quiet_load_row _ _ rfl M0 rfl 24 _ (0, 0) _ HM0.out Try.underlying24 rfl (sN a HLA0.out) (hK _ ?_))
    simp only [Act.put, List.setIfInBounds_toArray, List.set]
    refine upW_call (by rfl) (by rfl) (.agg (byteVals rH3).toArray) _ rfl (by simp) (fun p => ?_) ?_
    · go_big_quiet_op
      exact ⟨_, fun q => Calls.ext_of (HQH3.out q.x), rfl⟩
    simp only [Act.put, List.setIfInBounds_toArray, List.set]
    refine upW_late (by rfl) (.agg (byteVals (zerB 32)).toArray) (fun w => run_zeroN _ _ rfl w) ?_
    simp only [Act.put, List.setIfInBounds_toArray, List.set]
    refine upW_late (by rfl) (.bool false) (fun w => run_eqB _ _ _ _ 24 rfl Try.underlying24 rH3 (zerB 32) rfl rfl HLH3.out (zerB_len 32) (by kernel_rfl) false (decide_eq_false (fun h => by have h := congrArg le h; simp only [HVH3.out, le_zer] at h; exact HZ.out h)) w) ?_
    simp only [Act.put, List.setIfInBounds_toArray, List.set]
    refine upW_nil (fun w5 hbs => ?_)
    have HM0' := Lib.hid (HM0.out.ext hbs)
    have HM1' := Lib.hid (HM1.out.ext hbs)
    have HM2' := Lib.hid (HM2.out.ext hbs)
    have HB' := Lib.hid (HB.out.trans (hbs.mono (show N ≤ _ by have := HB.out.size; have := HN.out; omega)))
    clear hbs HB HM0 HM1 HM2
    have HB := HB'
    have HM0 := HM0'
    have HM1 := HM1'
    have HM2 := HM2'
    clear HB' HM0' HM1' HM2'
    go_wp2_with fail
    refine wp_region_up 28 28 (by kernel_rfl) (by kernel_rfl) (fun _ _ dst _ _ h => by cases dst <;> exact h) ?_
    simp only [List.take_succ_cons, List.take_zero, List.drop_succ_cons, List.drop_zero]
    refine upW_val (by rfl) (by rfl) (by rfl) (fun K hK => quiet_load_row _ _ rfl M2 rfl 24 _ (0, 0) _ HM2.out Try.underlying24 rfl (sN rH2 HLH2.out) (hK _ ?_))
    simp only [Act.put, List.setIfInBounds_toArray, List.set]
    refine upW_call (by rfl) (by rfl) (.agg (byteVals rH4).toArray) _ rfl (by simp) (fun p => ?_) ?_
    · go_big_quiet_op
      exact ⟨_, fun q => Calls.ext_of (HQH4.out q.x), rfl⟩
    simp only [Act.put, List.setIfInBounds_toArray, List.set]
    refine upW_late (by rfl) (.bool true) (fun w => run_eqB _ _ _ _ 24 rfl Try.underlying24 rH2 rH4 rfl rfl HLH2.out HLH4.out (by kernel_rfl) true (decide_eq_true (eq_le HLH2.out HLH4.out (by simp only [HVH1.out, HVH2.out, HVH4.out]; exact (fInv_one _ (le_32 a HLA0.out) HZ.out)))) w) ?_
    simp only [Act.put, List.setIfInBounds_toArray, List.set]
    refine upW_val (by rfl) (by rfl) (by rfl) ?_
    intro K hK
    go_big_quiet_op
    refine hK _ ?_
    refine upW_val (by rfl) (by rfl) (by rfl) (fun K hK => quiet_load_row _ _ rfl M0 rfl 24 _ (0, 0) _ HM0.out Try.underlying24 rfl (sN a HLA0.out) (hK _ ?_))
    simp only [Act.put, List.setIfInBounds_toArray, List.set]
    refine upW_call (by rfl) (by rfl) (.agg (byteVals rH5).toArray) _ rfl (by simp) (fun p => ?_) ?_
    · go_big_quiet_op
      exact ⟨_, fun q => Calls.ext_of (HQH5.out q.x), rfl⟩
    simp only [Act.put, List.setIfInBounds_toArray, List.set]
    refine upW_call (by rfl) (by rfl) (.agg (byteVals rH6).toArray) _ rfl (by simp) (fun p => ?_) ?_
    · go_big_quiet_op
      exact ⟨_, fun q => Calls.ext_of (HQH6.out q.x), rfl⟩
    simp only [Act.put, List.setIfInBounds_toArray, List.set]
    refine upW_val (by rfl) (by rfl) (by rfl) (fun K hK => quiet_load_row _ _ rfl M0 rfl 24 _ (0, 0) _ HM0.out Try.underlying24 rfl (sN a HLA0.out) (hK _ ?_))
    simp only [Act.put, List.setIfInBounds_toArray, List.set]
    refine upW_call (by rfl) (by rfl) (.agg (byteVals rH7).toArray) _ rfl (by simp) (fun p => ?_) ?_
    · go_big_quiet_op
      exact ⟨_, fun q => Calls.ext_of (HQH7.out q.x), rfl⟩
    simp only [Act.put, List.setIfInBounds_toArray, List.set]
    refine upW_late (by rfl) (.bool true) (fun w => run_eqB _ _ _ _ 24 rfl Try.underlying24 rH6 rH7 rfl rfl HLH6.out HLH7.out (by kernel_rfl) true (decide_eq_true (eq_le HLH6.out HLH7.out (by simp only [HVH5.out, HVH6.out, HVH7.out]; exact (fInv_inv _ (le_32 a HLA0.out) HZ.out)))) w) ?_
    simp only [Act.put, List.setIfInBounds_toArray, List.set]
    refine upW_val (by rfl) (by rfl) (by rfl) ?_
    intro K hK
    go_big_quiet_op
    refine hK _ ?_
    refine upW_val (by rfl) (by rfl) (by rfl) ?_
    intro K hK
    go_big_quiet_op
    refine hK _ ?_
    refine upW_val (by rfl) (by rfl) (by rfl) (fun K hK => quiet_load_row _ _ rfl M0 rfl 24 _ (0, 0) _ HM0.out Try.underlying24 rfl (sN a HLA0.out) (hK _ ?_))
    simp only [Act.put, List.setIfInBounds_toArray, List.set]
    refine upW_val (by rfl) (by rfl) (by rfl) (fun K hK => quiet_load_row _ _ rfl M1 rfl 24 _ (0, 0) _ HM1.out Try.underlying24 rfl (sN b HLA1.out) (hK _ ?_))
    simp only [Act.put, List.setIfInBounds_toArray, List.set]
    refine upW_call (by rfl) (by rfl) (.agg (byteVals rH8).toArray) _ rfl (by simp) (fun p => ?_) ?_
    · go_big_quiet_op
      exact ⟨_, fun q => Calls.ext_of (HQH8.out q.x), rfl⟩
    simp only [Act.put, List.setIfInBounds_toArray, List.set]
    refine upW_call (by rfl) (by rfl) (.agg (byteVals rH9).toArray) _ rfl (by simp) (fun p => ?_) ?_
    · go_big_quiet_op
      exact ⟨_, fun q => Calls.ext_of (HQH9.out q.x), rfl⟩
    simp only [Act.put, List.setIfInBounds_toArray, List.set]
    refine upW_val (by rfl) (by rfl) (by rfl) (fun K hK => quiet_load_row _ _ rfl M0 rfl 24 _ (0, 0) _ HM0.out Try.underlying24 rfl (sN a HLA0.out) (hK _ ?_))
    simp only [Act.put, List.setIfInBounds_toArray, List.set]
    refine upW_call (by rfl) (by rfl) (.agg (byteVals rH10).toArray) _ rfl (by simp) (fun p => ?_) ?_
    · go_big_quiet_op
      exact ⟨_, fun q => Calls.ext_of (HQH10.out q.x), rfl⟩
    simp only [Act.put, List.setIfInBounds_toArray, List.set]
    refine upW_val (by rfl) (by rfl) (by rfl) (fun K hK => quiet_load_row _ _ rfl M1 rfl 24 _ (0, 0) _ HM1.out Try.underlying24 rfl (sN b HLA1.out) (hK _ ?_))
    simp only [Act.put, List.setIfInBounds_toArray, List.set]
    refine upW_call (by rfl) (by rfl) (.agg (byteVals rH11).toArray) _ rfl (by simp) (fun p => ?_) ?_
    · go_big_quiet_op
      exact ⟨_, fun q => Calls.ext_of (HQH11.out q.x), rfl⟩
    simp only [Act.put, List.setIfInBounds_toArray, List.set]
    refine upW_call (by rfl) (by rfl) (.agg (byteVals rH12).toArray) _ rfl (by simp) (fun p => ?_) ?_
    · go_big_quiet_op
      exact ⟨_, fun q => Calls.ext_of (HQH12.out q.x), rfl⟩
    simp only [Act.put, List.setIfInBounds_toArray, List.set]
    refine upW_late (by rfl) (.bool true) (fun w => run_eqB _ _ _ _ 24 rfl Try.underlying24 rH9 rH12 rfl rfl HLH9.out HLH12.out (by kernel_rfl) true (decide_eq_true (eq_le HLH9.out HLH12.out (by simp only [HVH8.out, HVH9.out, HVH10.out, HVH11.out, HVH12.out]; exact (fInv_mul _ _ (le_32 a HLA0.out) (le_32 b HLA1.out))))) w) ?_
    simp only [Act.put, List.setIfInBounds_toArray, List.set]
    refine upW_val (by rfl) (by rfl) (by rfl) ?_
    intro K hK
    go_big_quiet_op
    refine hK _ ?_
    refine upW_val (by rfl) (by rfl) (by rfl) ?_
    intro K hK
    go_big_quiet_op
    refine hK _ ?_
    refine upW_val (by rfl) (by rfl) (by rfl) (fun K hK => quiet_load_row _ _ rfl M0 rfl 24 _ (0, 0) _ HM0.out Try.underlying24 rfl (sN a HLA0.out) (hK _ ?_))
    simp only [Act.put, List.setIfInBounds_toArray, List.set]
    refine upW_call (by rfl) (by rfl) (.agg (byteVals rH13).toArray) _ rfl (by simp) (fun p => ?_) ?_
    · go_big_quiet_op
      exact ⟨_, fun q => Calls.ext_of (HQH13.out q.x), rfl⟩
    simp only [Act.put, List.setIfInBounds_toArray, List.set]
    refine upW_call (by rfl) (by rfl) (.bool true) _ rfl (by simp) (fun p => ?_) ?_
    · go_big_quiet_op
      exact ⟨_, fun q => Calls.ext_of (HQH14.out q.x), rfl⟩
    simp only [Act.put, List.setIfInBounds_toArray, List.set]
    refine upW_val (by rfl) (by rfl) (by rfl) ?_
    intro K hK
    go_big_quiet_op
    refine hK _ ?_
    refine upW_nil (fun w6 hbs => ?_)
    have HF := Lib.hid (HB.out.trans (hbs.mono (show N ≤ _ by have := HB.out.size; have := HN.out; omega)))
    clear hbs
    go_wp2
    go_ret
    exact ⟨rfl, HN.out.symm ▸ HF.out⟩
theorem fieldInv_own : ownKnob Try.prog.godebug = none := by kernel_rfl

set_option maxRecDepth 100000 in
theorem fieldInv_lifted (os : Os) (started : os.Started) (H : Type) (enc : TypeId × Value → H) :
    ReturnsInHanded {} Try.checked os 6 .any (Rows.fieldInvSpec.pre6 enc Try.prog Try.f6 Rows.fieldInvRow.domain false) (Rows.fieldInvSpec.post enc Try.prog Try.f6 false true false false) := by
  refine returnsInHanded_of_change (C := Try.checked) fieldInv_own started (by kernel_rfl) Try.func6
    (ChangeSpec.witness6 (enc := enc) (C := Try.checked) false ⟨#[], #[.agg (Array.replicate 32 (.int .u8 0)), .agg (Array.replicate 32 (.int .u8 0))], []⟩ 8 (by kernel_rfl) (by kernel_rfl) (by kernel_rfl) (by kernel_rfl)) ?_
  intro W base args ds gs before hval0 hW hcnd _
  have hval : ∀ (j : Nat) t v, Try.f6.params[j]? = some t → args[j]? = some v → Value.okWide Try.prog W .any base t v := hval0
  have hW' := hW
  obtain ⟨p, q, hA0, hV, rfl, hfz, hnd⟩ := hW
  have hA : DataW.TrodAll enc Try.prog W 0 (fun _ => true) true Try.f6.params.toList args.toList ds p := hA0
  rw [Try.params6] at hA hval
  obtain ⟨v0, vs0, d0, ds0, p0, q0, hargs, rfl, rfl, h0, r0⟩ := trodAll_cons hA
  obtain ⟨v1, vs1, d1, ds1, p1, q1, rfl, rfl, rfl, h1, r1⟩ := trodAll_cons r0
  obtain ⟨rfl, rfl, rfl⟩ := trodAll_nil r1
  obtain rfl : args = #[v0, v1] := by cases args; simp_all
  obtain ⟨rfl, rfl⟩ := trodVars_none hV
  obtain ⟨a0, hl0, rfl, rfl, rfl⟩ := open_arr8 Try.underlying23 Try.underlying5 (by kernel_rfl) (by kernel_rfl) (hval 0 23 v0 rfl rfl) h0
  obtain ⟨a1, hl1, rfl, rfl, rfl⟩ := open_arr8 Try.underlying23 Try.underlying5 (by kernel_rfl) (by kernel_rfl) (hval 1 23 v1 rfl rfl) h1
  clear hA0 hval0
  simp only [List.append_nil] at hW'
  refine (fieldInv_true a0 a1 W hl0 hl1).mono fun e W' ⟨he, bel⟩ => ?_
  subst he
  exact ⟨_, rfl, _, _, _, [], [], [], hW', trodAll_mk1 (shut_bool Try.underlying4 _), (trodAll_cons_mk (shut_arr8 Try.underlying23 Try.underlying5 (by kernel_rfl) (by kernel_rfl) a0 hl0) (trodAll_cons_mk (shut_arr8 Try.underlying23 Try.underlying5 (by kernel_rfl) (by kernel_rfl) a1 hl1) trodAll_mk0)), rfl, bel.frame _, fun h => by cases h⟩

theorem fieldInv_holds : Rows.FieldInvSaid :=
  OpenClaim.holds_of_wide 6 Try.f6 rfl rfl rfl rfl rfl rfl rfl ⟨rfl, rfl, rfl, rfl, rfl⟩ rfl rfl rfl rfl rfl (by kernel_rfl) Try.func6 (by kernel_rfl)
    (of_decide_eq_true (by kernel_rfl)) (by unfold Func.isWrapper; first | (rw [if_pos (by decide +kernel)]; kernel_rfl) | (rw [if_neg (by decide +kernel)]; exact ⟨rfl, rfl⟩))
    (fun os started H enc _ => fieldInv_lifted os started H enc)
#print axioms fieldInv_holds

end Go.Proofs.Ytinacaflhphmkaa
