/-
  FieldRoots: each square has its even root; of a number and twice it, both not nought, just one is a square.
  Conditions: none.
-/
import Derived.Test.YtinacaflhphmkaaFdAw
import Derived.Test.YtinacaflhphmkaaFdRt
import Derived.Test.YtinacaflhphmkaaFdO
namespace Go.Proofs.Ytinacaflhphmkaa
open Go.RowKit

open Go.ChangeShapes Go.WideShapes Go.ChangeAt
set_option maxRecDepth 100000 in
set_option maxHeartbeats 1000000 in
theorem fieldRoots_true (a : List UInt8) (w : World) (hla : a.length = 32) :
    Calls Try.prog 7 #[.agg (byteVals a).toArray] w fun e w' => e = .returned (.bool true) ∧ Below w.heap.size w w' := by
  have HLA0 := Lib.hid hla
  have hz := zN
  clear hla
  by_cases hzz : le a % 57896044618658097711785492504343953926634992332820282019728792003956564819949 = 0
  · have HZ := Lib.hid hzz
    have HSM := Lib.hid (root_nought (le a) (le_32 a HLA0.out) hzz)
    clear hzz
    obtain ⟨rH1, hrH1⟩ : ∃ r, b32 (fMul (le a) (le a)) = r := ⟨_, rfl⟩
    have HQH1 := Lib.hid (fun w => Mul_any a a w HLA0.out HLA0.out)
    rw [hrH1] at HQH1
    have HLH1 := Lib.hid (show rH1.length = 32 by rw [← hrH1]; exact b32_len _)
    have HVH1 := Lib.hid (show le rH1 = fMul (le a) (le a) by rw [← hrH1]; exact le_b32 _ (lt4 (fMul_lt _ _ )))
    clear hrH1
    obtain ⟨rH2, hrH2⟩ : ∃ r, b32 (fRoot (le rH1)).1 = r := ⟨_, rfl⟩
    have HQH2 := Lib.hid (fun w => Root_any rH1 w HLH1.out)
    rw [hrH2, show (fRoot (le rH1)).2 = true from (by simp only [HVH1.out]; exact fRoot_of_sq _ (le_32 a HLA0.out))] at HQH2
    have HLH2 := Lib.hid (show rH2.length = 32 by rw [← hrH2]; exact b32_len _)
    have HVH2 := Lib.hid (show le rH2 = (fRoot (le rH1)).1 by rw [← hrH2]; exact le_b32 _ (lt4 (fRoot_lt _)))
    clear hrH2
    obtain ⟨rH3, hrH3⟩ : ∃ r, b32 (fRoot (le a)).1 = r := ⟨_, rfl⟩
    have HQH3 := Lib.hid (fun w => Root_any a w HLA0.out)
    rw [hrH3, show (fRoot (le a)).2 = true from (by rw [fRoot_nought _ HZ.out])] at HQH3
    have HLH3 := Lib.hid (show rH3.length = 32 by rw [← hrH3]; exact b32_len _)
    have HVH3 := Lib.hid (show le rH3 = (fRoot (le a)).1 by rw [← hrH3]; exact le_b32 _ (lt4 (fRoot_lt _)))
    clear hrH3
    obtain ⟨rH4, hrH4⟩ : ∃ r, b32 (fAdd (le a) (le a)) = r := ⟨_, rfl⟩
    have HQH4 := Lib.hid (fun w => Add_any a a w HLA0.out HLA0.out)
    rw [hrH4] at HQH4
    have HLH4 := Lib.hid (show rH4.length = 32 by rw [← hrH4]; exact b32_len _)
    have HVH4 := Lib.hid (show le rH4 = fAdd (le a) (le a) by rw [← hrH4]; exact le_b32 _ (lt4 (fAdd_lt _ _ )))
    clear hrH4
    obtain ⟨rH5, hrH5⟩ : ∃ r, b32 (fRoot (le rH4)).1 = r := ⟨_, rfl⟩
    have HQH5 := Lib.hid (fun w => Root_any rH4 w HLH4.out)
    rw [hrH5, show (fRoot (le rH4)).2 = true from (by simp only [HVH4.out]; exact (by rw [fRoot_nought _ (by rw [fAdd_two, Nat.mod_mod, Nat.mul_mod, HZ.out, Nat.mul_zero, Nat.zero_mod])]))] at HQH5
    have HLH5 := Lib.hid (show rH5.length = 32 by rw [← hrH5]; exact b32_len _)
    have HVH5 := Lib.hid (show le rH5 = (fRoot (le rH4)).1 by rw [← hrH5]; exact le_b32 _ (lt4 (fRoot_lt _)))
    clear hrH5
    have HQH6 := Lib.hid (fun w => Odd_any rH2 w HLH2.out)
    rw [show decide (le rH2 % 57896044618658097711785492504343953926634992332820282019728792003956564819949 % 2 = 1) = false from (by rw [HVH2.out]; exact fRoot_odd _)] at HQH6
    obtain ⟨rH7, hrH7⟩ : ∃ r, b32 (fMul (le rH2) (le rH2)) = r := ⟨_, rfl⟩
    have HQH7 := Lib.hid (fun w => Mul_any rH2 rH2 w HLH2.out HLH2.out)
    rw [hrH7] at HQH7
    have HLH7 := Lib.hid (show rH7.length = 32 by rw [← hrH7]; exact b32_len _)
    have HVH7 := Lib.hid (show le rH7 = fMul (le rH2) (le rH2) by rw [← hrH7]; exact le_b32 _ (lt4 (fMul_lt _ _ )))
    clear hrH7
    obtain ⟨rH8, hrH8⟩ : ∃ r, b32 (fMul (le a) (le a)) = r := ⟨_, rfl⟩
    have HQH8 := Lib.hid (fun w => Mul_any a a w HLA0.out HLA0.out)
    rw [hrH8] at HQH8
    have HLH8 := Lib.hid (show rH8.length = 32 by rw [← hrH8]; exact b32_len _)
    have HVH8 := Lib.hid (show le rH8 = fMul (le a) (le a) by rw [← hrH8]; exact le_b32 _ (lt4 (fMul_lt _ _ )))
    clear hrH8
    obtain ⟨rH9, hrH9⟩ : ∃ r, b32 (le a % 57896044618658097711785492504343953926634992332820282019728792003956564819949) = r := ⟨_, rfl⟩
    have HQH9 := Lib.hid (fun w => Rest_any a w HLA0.out)
    rw [hrH9] at HQH9
    have HLH9 := Lib.hid (show rH9.length = 32 by rw [← hrH9]; exact b32_len _)
    have HVH9 := Lib.hid (show le rH9 = le a % 57896044618658097711785492504343953926634992332820282019728792003956564819949 by rw [← hrH9]; exact le_b32 _ (lt4 (Nat.mod_lt _ P_pos)))
    clear hrH9
    obtain ⟨rH10, hrH10⟩ : ∃ r, b32 (le a % 57896044618658097711785492504343953926634992332820282019728792003956564819949) = r := ⟨_, rfl⟩
    have HQH10 := Lib.hid (fun w => Rest_any a w HLA0.out)
    rw [hrH10] at HQH10
    have HLH10 := Lib.hid (show rH10.length = 32 by rw [← hrH10]; exact b32_len _)
    have HVH10 := Lib.hid (show le rH10 = le a % 57896044618658097711785492504343953926634992332820282019728792003956564819949 by rw [← hrH10]; exact le_b32 _ (lt4 (Nat.mod_lt _ P_pos)))
    clear hrH10
    go_enter Try.func7, Try.ntmps7
    go_upto_region 1 with fail
    generalize hW1 : World.alloc _ _ = W1
    obtain ⟨N, hN⟩ : ∃ n, w.heap.size = n := ⟨_, rfl⟩
    have HX0 := Lib.hid (show BT W1 N 23 a by subst hW1; rw [← hN]; exact Go.heap_alloc_new _ _)
    have HB := Lib.hid (show Below N w W1 by subst hW1; rw [← hN]; exact (Below.refl _ w).alloc (Nat.le_refl _) _)
    have HN := Lib.hid hN
    rw [hN]
    clear hW1 hN
    go_wp2_with fail
    refine (awake_any _).mono ?_
    rintro e wa ⟨rfl, hba⟩
    have HX0' := Lib.hid (HX0.out.ext hba)
    have HB' := Lib.hid (HB.out.trans (hba.mono (show N ≤ _ by have := HX0.out.lt; omega)))
    clear hba HB HX0
    have HB := HB'
    have HX0 := HX0'
    clear HB' HX0'
    go_upto_region 3 with fail
    refine wp_region_seq 1 ?_
    simp only [List.take_succ_cons, List.take_zero, List.drop_succ_cons, List.drop_zero]
    refine upW_val (by rfl) (by rfl) (by rfl) (fun K hK => quiet_load_row _ _ rfl N rfl 23 _ (0, 0) _ HX0.out Try.underlying23 rfl (sB a HLA0.out) (hK _ ?_))
    simp only [Act.put, List.setIfInBounds_toArray, List.set]
    refine upW_nil (fun ws0 hbs0 => ?_)
    go_wp2_with (refine wpList_store_row rfl 24 _ _ rfl ws0.heap.size ((byteVals a).toArray) rfl rfl 24 _ (Go.heap_alloc_new _ _) (sN a HLA0.out) ?hold (byteVals_one _) (Stop.out ?_))
    case hold => rw [size_byteVals, size_byteVals, zerB_len, HLA0.out]
    generalize hWS : World.setRow _ _ _ = W0
    obtain ⟨M0, hM⟩ : ∃ n, ws0.heap.size = n := ⟨_, rfl⟩
    have HM0 := Lib.hid (show BT W0 M0 24 a by subst hWS; rw [← hM]; exact setRow_heap _ _ _ _ _ _ (Go.heap_alloc_new _ _))
    have HB' := Lib.hid (show Below N w W0 by subst hWS; exact Below.setRow ((HB.out.trans (hbs0.mono (show N ≤ _ by have := HB.out.size; have := HN.out; omega))).alloc (by have := hbs0.size; have := HB.out.size; have := HN.out; omega) _) (by have := hbs0.size; have := HB.out.size; have := HN.out; omega) _)
    rw [hM]
    clear hWS hM hbs0 HB 
    have HB := HB'
    clear HB' 
    refine ⟨?_⟩
    go_upto_region 4 with fail
    refine wp_region_seq 7 ?_
    simp only [List.take_succ_cons, List.take_zero, List.drop_succ_cons, List.drop_zero]
    refine upW_val (by rfl) (by rfl) (by rfl) (fun K hK => quiet_load_row _ _ rfl M0 rfl 24 _ (0, 0) _ HM0.out Try.underlying24 rfl (sN a HLA0.out) (hK _ ?_))
    simp only [Act.put, List.setIfInBounds_toArray, List.set]
    refine upW_val (by rfl) (by rfl) (by rfl) (fun K hK => quiet_load_row _ _ rfl M0 rfl 24 _ (0, 0) _ HM0.out Try.underlying24 rfl (sN a HLA0.out) (hK _ ?_))
    simp only [Act.put, List.setIfInBounds_toArray, List.set]
    refine upW_call (by rfl) (by rfl) (.agg (byteVals rH1).toArray) _ rfl (by simp) (fun p => ?_) ?_
    · go_big_quiet_op
      exact ⟨_, fun q => Calls.ext_of (HQH1.out q.x), rfl⟩
    simp only [Act.put, List.setIfInBounds_toArray, List.set]
    refine upW_call (by rfl) (by rfl) (.tuple #[.agg (byteVals rH2).toArray, .bool true]) _ rfl (by simp) (fun p => ?_) ?_
    · go_big_quiet_op
      exact ⟨_, fun q => Calls.ext_of (HQH2.out q.x), rfl⟩
    simp only [Act.put, List.setIfInBounds_toArray, List.set]
    refine upW_val (by rfl) (by rfl) (by rfl) ?_
    intro K hK
    go_big_quiet_op
    refine hK _ ?_
    refine upW_late (by rfl) (.agg (byteVals rH2).toArray) (fun _ => rfl) ?_
    simp only [Act.put, List.setIfInBounds_toArray, List.set]
    refine upW_late (by rfl) (.bool true) (fun _ => rfl) ?_
    simp only [Act.put, List.setIfInBounds_toArray, List.set]
    refine upW_nil (fun ws1 hbs1 => ?_)
    go_wp2_with (refine wpList_store_row rfl 24 _ _ rfl ws1.heap.size ((byteVals rH2).toArray) rfl rfl 24 _ (Go.heap_alloc_new _ _) (sN rH2 HLH2.out) ?hold (byteVals_one _) (Stop.out ?_))
    case hold => rw [size_byteVals, size_byteVals, zerB_len, HLH2.out]
    generalize hWS : World.setRow _ _ _ = W1
    obtain ⟨M1, hM⟩ : ∃ n, ws1.heap.size = n := ⟨_, rfl⟩
    have HM1 := Lib.hid (show BT W1 M1 24 rH2 by subst hWS; rw [← hM]; exact setRow_heap _ _ _ _ _ _ (Go.heap_alloc_new _ _))
    have HM0' := Lib.hid (show BT W1 M0 24 a by subst hWS; exact (HM0.out.ext hbs1).other ((setRow_other _ _ _ _ (by rw [hM]; have := (HM0.out.ext hbs1).lt; omega)).trans (Go.heap_alloc_old _ _ (HM0.out.ext hbs1).lt)))
    have HB' := Lib.hid (show Below N w W1 by subst hWS; exact Below.setRow ((HB.out.trans (hbs1.mono (show N ≤ _ by have := HB.out.size; have := HN.out; omega))).alloc (by have := hbs1.size; have := HB.out.size; have := HN.out; omega) _) (by have := hbs1.size; have := HB.out.size; have := HN.out; omega) _)
    rw [hM]
    clear hWS hM hbs1 HB HM0
    have HB := HB'
    have HM0 := HM0'
    clear HB' HM0'
    refine ⟨?_⟩
    go_upto_region 5 with fail
    refine wp_region_seq 5 ?_
    simp only [List.take_succ_cons, List.take_zero, List.drop_succ_cons, List.drop_zero]
    refine upW_val (by rfl) (by rfl) (by rfl) (fun K hK => quiet_load_row _ _ rfl M0 rfl 24 _ (0, 0) _ HM0.out Try.underlying24 rfl (sN a HLA0.out) (hK _ ?_))
    simp only [Act.put, List.setIfInBounds_toArray, List.set]
    refine upW_call (by rfl) (by rfl) (.tuple #[.agg (byteVals rH3).toArray, .bool true]) _ rfl (by simp) (fun p => ?_) ?_
    · go_big_quiet_op
      exact ⟨_, fun q => Calls.ext_of (HQH3.out q.x), rfl⟩
    simp only [Act.put, List.setIfInBounds_toArray, List.set]
    refine upW_val (by rfl) (by rfl) (by rfl) ?_
    intro K hK
    go_big_quiet_op
    refine hK _ ?_
    refine upW_late (by rfl) (.agg (byteVals rH3).toArray) (fun _ => rfl) ?_
    simp only [Act.put, List.setIfInBounds_toArray, List.set]
    refine upW_late (by rfl) (.bool true) (fun _ => rfl) ?_
    simp only [Act.put, List.setIfInBounds_toArray, List.set]
    refine upW_nil (fun ws2 hbs2 => ?_)
    go_wp2_with (refine wpList_store_row rfl 24 _ _ rfl ws2.heap.size ((byteVals rH3).toArray) rfl rfl 24 _ (Go.heap_alloc_new _ _) (sN rH3 HLH3.out) ?hold (byteVals_one _) (Stop.out ?_))
    case hold => rw [size_byteVals, size_byteVals, zerB_len, HLH3.out]
    generalize hWS : World.setRow _ _ _ = W2
    obtain ⟨M2, hM⟩ : ∃ n, ws2.heap.size = n := ⟨_, rfl⟩
    have HM2 := Lib.hid (show BT W2 M2 24 rH3 by subst hWS; rw [← hM]; exact setRow_heap _ _ _ _ _ _ (Go.heap_alloc_new _ _))
    have HM0' := Lib.hid (show BT W2 M0 24 a by subst hWS; exact (HM0.out.ext hbs2).other ((setRow_other _ _ _ _ (by rw [hM]; have := (HM0.out.ext hbs2).lt; omega)).trans (Go.heap_alloc_old _ _ (HM0.out.ext hbs2).lt)))
    have HM1' := Lib.hid (show BT W2 M1 24 rH2 by subst hWS; exact (HM1.out.ext hbs2).other ((setRow_other _ _ _ _ (by rw [hM]; have := (HM1.out.ext hbs2).lt; omega)).trans (Go.heap_alloc_old _ _ (HM1.out.ext hbs2).lt)))
    have HB' := Lib.hid (show Below N w W2 by subst hWS; exact Below.setRow ((HB.out.trans (hbs2.mono (show N ≤ _ by have := HB.out.size; have := HN.out; omega))).alloc (by have := hbs2.size; have := HB.out.size; have := HN.out; omega) _) (by have := hbs2.size; have := HB.out.size; have := HN.out; omega) _)
    rw [hM]
    clear hWS hM hbs2 HB HM0 HM1
    have HB := HB'
    have HM0 := HM0'
    have HM1 := HM1'
    clear HB' HM0' HM1'
    refine ⟨?_⟩
    go_upto_region 6 with fail
    refine wp_region_seq 7 ?_
    simp only [List.take_succ_cons, List.take_zero, List.drop_succ_cons, List.drop_zero]
    refine upW_val (by rfl) (by rfl) (by rfl) (fun K hK => quiet_load_row _ _ rfl M0 rfl 24 _ (0, 0) _ HM0.out Try.underlying24 rfl (sN a HLA0.out) (hK _ ?_))
    simp only [Act.put, List.setIfInBounds_toArray, List.set]
    refine upW_val (by rfl) (by rfl) (by rfl) (fun K hK => quiet_load_row _ _ rfl M0 rfl 24 _ (0, 0) _ HM0.out Try.underlying24 rfl (sN a HLA0.out) (hK _ ?_))
    simp only [Act.put, List.setIfInBounds_toArray, List.set]
    refine upW_call (by rfl) (by rfl) (.agg (byteVals rH4).toArray) _ rfl (by simp) (fun p => ?_) ?_
    · go_big_quiet_op
      exact ⟨_, fun q => Calls.ext_of (HQH4.out q.x), rfl⟩
    simp only [Act.put, List.setIfInBounds_toArray, List.set]
    refine upW_call (by rfl) (by rfl) (.tuple #[.agg (byteVals rH5).toArray, .bool true]) _ rfl (by simp) (fun p => ?_) ?_
    · go_big_quiet_op
      exact ⟨_, fun q => Calls.ext_of (HQH5.out q.x), rfl⟩
    simp only [Act.put, List.setIfInBounds_toArray, List.set]
    refine upW_val (by rfl) (by rfl) (by rfl) ?_
    intro K hK
    go_big_quiet_op
    refine hK _ ?_
    refine upW_late (by rfl) (.agg (byteVals rH5).toArray) (fun _ => rfl) ?_
    simp only [Act.put, List.setIfInBounds_toArray, List.set]
    refine upW_late (by rfl) (.bool true) (fun _ => rfl) ?_
    simp only [Act.put, List.setIfInBounds_toArray, List.set]
    refine upW_nil (fun ws3 hbs3 => ?_)
    go_wp2_with (refine wpList_store_row rfl 24 _ _ rfl ws3.heap.size ((byteVals rH5).toArray) rfl rfl 24 _ (Go.heap_alloc_new _ _) (sN rH5 HLH5.out) ?hold (byteVals_one _) (Stop.out ?_))
    case hold => rw [size_byteVals, size_byteVals, zerB_len, HLH5.out]
    generalize hWS : World.setRow _ _ _ = W3
    obtain ⟨M3, hM⟩ : ∃ n, ws3.heap.size = n := ⟨_, rfl⟩
    have HM3 := Lib.hid (show BT W3 M3 24 rH5 by subst hWS; rw [← hM]; exact setRow_heap _ _ _ _ _ _ (Go.heap_alloc_new _ _))
    have HM0' := Lib.hid (show BT W3 M0 24 a by subst hWS; exact (HM0.out.ext hbs3).other ((setRow_other _ _ _ _ (by rw [hM]; have := (HM0.out.ext hbs3).lt; omega)).trans (Go.heap_alloc_old _ _ (HM0.out.ext hbs3).lt)))
    have HM1' := Lib.hid (show BT W3 M1 24 rH2 by subst hWS; exact (HM1.out.ext hbs3).other ((setRow_other _ _ _ _ (by rw [hM]; have := (HM1.out.ext hbs3).lt; omega)).trans (Go.heap_alloc_old _ _ (HM1.out.ext hbs3).lt)))
    have HM2' := Lib.hid (show BT W3 M2 24 rH3 by subst hWS; exact (HM2.out.ext hbs3).other ((setRow_other _ _ _ _ (by rw [hM]; have := (HM2.out.ext hbs3).lt; omega)).trans (Go.heap_alloc_old _ _ (HM2.out.ext hbs3).lt)))
    have HB' := Lib.hid (show Below N w W3 by subst hWS; exact Below.setRow ((HB.out.trans (hbs3.mono (show N ≤ _ by have := HB.out.size; have := HN.out; omega))).alloc (by have := hbs3.size; have := HB.out.size; have := HN.out; omega) _) (by have := hbs3.size; have := HB.out.size; have := HN.out; omega) _)
    rw [hM]
    clear hWS hM hbs3 HB HM0 HM1 HM2
    have HB := HB'
    have HM0 := HM0'
    have HM1 := HM1'
    have HM2 := HM2'
    clear HB' HM0' HM1' HM2'
    refine ⟨?_⟩
    go_wp2_with fail
    refine wp_region_whole (List.range 28) [] [] (by kernel_rfl) (by kernel_rfl) (List.forall_mem_nil _) rfl ?_
    simp only [List.foldl]
    refine upW_val (by rfl) (by rfl) (by rfl) ?_
    intro K hK
    go_big_quiet_op
    refine hK _ ?_
    refine upW_val (by rfl) (by rfl) (by rfl) ?_
    intro K hK
    go_big_quiet_op
    refine hK _ ?_
    refine upW_val (by rfl) (by rfl) (by rfl) ?_
    intro K hK
    go_big_quiet_op
    refine hK _ ?_
    refine upW_val (by rfl) (by rfl) (by rfl) (fun K hK => quiet_load_row _ _ rfl M1 rfl 24 _ (0, 0) _ HM1.out Try.underlying24 rfl (sN rH2 HLH2.out) (hK _ ?_))
    simp only [Act.put, List.setIfInBounds_toArray, List.set]
    refine upW_call (by rfl) (by rfl) (.bool false) _ rfl (by simp) (fun p => ?_) ?_
    · go_big_quiet_op
      exact ⟨_, fun q => Calls.ext_of (HQH6.out q.x), rfl⟩
    simp only [Act.put, List.setIfInBounds_toArray, List.set]
    refine upW_val (by rfl) (by rfl) (by rfl) ?_
    intro K hK
    go_big_quiet_op
    refine hK _ ?_
    refine upW_val (by rfl) (by rfl) (by rfl) ?_
    intro K hK
    go_big_quiet_op
    refine hK _ ?_
    refine upW_val (by rfl) (by rfl) (by rfl) (fun K hK => quiet_load_row _ _ rfl M1 rfl 24 _ (0, 0) _ HM1.out Try.underlying24 rfl (sN rH2 HLH2.out) (hK _ ?_))
    simp only [Act.put, List.setIfInBounds_toArray, List.set]
    refine upW_val (by rfl) (by rfl) (by rfl) (fun K hK => quiet_load_row _ _ rfl M1 rfl 24 _ (0, 0) _ HM1.out Try.underlying24 rfl (sN rH2 HLH2.out) (hK _ ?_))
    simp only [Act.put, List.setIfInBounds_toArray, List.set]
    refine upW_call (by rfl) (by rfl) (.agg (byteVals rH7).toArray) _ rfl (by simp) (fun p => ?_) ?_
    · go_big_quiet_op
      exact ⟨_, fun q => Calls.ext_of (HQH7.out q.x), rfl⟩
    simp only [Act.put, List.setIfInBounds_toArray, List.set]
    refine upW_val (by rfl) (by rfl) (by rfl) (fun K hK => quiet_load_row _ _ rfl M0 rfl 24 _ (0, 0) _ HM0.out Try.underlying24 rfl (sN a HLA0.out) (hK _ ?_))
    simp only [Act.put, List.setIfInBounds_toArray, List.set]
    refine upW_val (by rfl) (by rfl) (by rfl) (fun K hK => quiet_load_row _ _ rfl M0 rfl 24 _ (0, 0) _ HM0.out Try.underlying24 rfl (sN a HLA0.out) (hK _ ?_))
    simp only [Act.put, List.setIfInBounds_toArray, List.set]
    refine upW_call (by rfl) (by rfl) (.agg (byteVals rH8).toArray) _ rfl (by simp) (fun p => ?_) ?_
    · go_big_quiet_op
      exact ⟨_, fun q => Calls.ext_of (HQH8.out q.x), rfl⟩
    simp only [Act.put, List.setIfInBounds_toArray, List.set]
    refine upW_late (by rfl) (.bool false) (fun w => run_neB _ _ _ _ 24 rfl Try.underlying24 rH7 rH8 rfl rfl HLH7.out HLH8.out (by kernel_rfl) false (by rw [show decide (rH7 = rH8) = true from (decide_eq_true (eq_le HLH7.out HLH8.out (by simp only [HVH1.out, HVH2.out, HVH7.out, HVH8.out]; exact (by rw [fMul_root _ (fRoot_of_sq _ (le_32 a HLA0.out)), fMul_mod]))))]; rfl) w) ?_
    simp only [Act.put, List.setIfInBounds_toArray, List.set]
    refine upW_val (by rfl) (by rfl) (by rfl) ?_
    intro K hK
    go_big_quiet_op
    refine hK _ ?_
    refine upW_val (by rfl) (by rfl) (by rfl) ?_
    intro K hK
    go_big_quiet_op
    refine hK _ ?_
    refine upW_val (by rfl) (by rfl) (by rfl) (fun K hK => quiet_load_row _ _ rfl M1 rfl 24 _ (0, 0) _ HM1.out Try.underlying24 rfl (sN rH2 HLH2.out) (hK _ ?_))
    simp only [Act.put, List.setIfInBounds_toArray, List.set]
    refine upW_val (by rfl) (by rfl) (by rfl) (fun K hK => quiet_load_row _ _ rfl M0 rfl 24 _ (0, 0) _ HM0.out Try.underlying24 rfl (sN a HLA0.out) (hK _ ?_))
    simp only [Act.put, List.setIfInBounds_toArray, List.set]
    refine upW_call (by rfl) (by rfl) (.agg (byteVals rH9).toArray) _ rfl (by simp) (fun p => ?_) ?_
    · go_big_quiet_op
      exact ⟨_, fun q => Calls.ext_of (HQH9.out q.x), rfl⟩
    simp only [Act.put, List.setIfInBounds_toArray, List.set]
    refine upW_late (by rfl) (.bool false) (fun w => run_neB _ _ _ _ 24 rfl Try.underlying24 rH2 rH9 rfl rfl HLH2.out HLH9.out (by kernel_rfl) false (by rw [show decide (rH2 = rH9) = true from (decide_eq_true (eq_le HLH2.out HLH9.out (by simp only [HVH1.out, HVH2.out, HVH9.out]; exact HSM.out)))]; rfl) w) ?_
    simp only [Act.put, List.setIfInBounds_toArray, List.set]
    refine upW_val (by rfl) (by rfl) (by rfl) ?_
    intro K hK
    go_big_quiet_op
    refine hK _ ?_
    refine upW_skip (by rfl) ?_
    simp only [Act.put, List.setIfInBounds_toArray, List.set]
    refine upW_skip (by rfl) ?_
    simp only [Act.put, List.setIfInBounds_toArray, List.set]
    refine upW_skip (by rfl) ?_
    simp only [Act.put, List.setIfInBounds_toArray, List.set]
    refine upW_skip (by rfl) ?_
    simp only [Act.put, List.setIfInBounds_toArray, List.set]
    refine upW_skip (by rfl) ?_
    simp only [Act.put, List.setIfInBounds_toArray, List.set]
    refine upW_val (by rfl) (by rfl) (by rfl) ?_
    intro K hK
    go_big_quiet_op
    refine hK _ ?_
    refine upW_val (by rfl) (by rfl) (by rfl) ?_
    intro K hK
    go_big_quiet_op
    refine hK _ ?_
    refine upW_nil ⟨List.forall_mem_nil _, fun _ w7 _ _ hbs => ?_⟩
    simp only [List.foldr]
    have HM0' := Lib.hid (HM0.out.ext hbs)
    have HM1' := Lib.hid (HM1.out.ext hbs)
    have HM2' := Lib.hid (HM2.out.ext hbs)
    have HM3' := Lib.hid (HM3.out.ext hbs)
    have HB' := Lib.hid (HB.out.trans (hbs.mono (show N ≤ _ by have := HB.out.size; have := HN.out; omega)))
    clear hbs HB HM0 HM1 HM2 HM3
    have HB := HB'
    have HM0 := HM0'
    have HM1 := HM1'
    have HM2 := HM2'
    have HM3 := HM3'
    clear HB' HM0' HM1' HM2' HM3'
    go_upto_region 9 with fail
    refine wp_region_seq 4 ?_
    simp only [List.take_succ_cons, List.take_zero, List.drop_succ_cons, List.drop_zero]
    refine upW_val (by rfl) (by rfl) (by rfl) (fun K hK => quiet_load_row _ _ rfl M0 rfl 24 _ (0, 0) _ HM0.out Try.underlying24 rfl (sN a HLA0.out) (hK _ ?_))
    simp only [Act.put, List.setIfInBounds_toArray, List.set]
    refine upW_call (by rfl) (by rfl) (.agg (byteVals rH10).toArray) _ rfl (by simp) (fun p => ?_) ?_
    · go_big_quiet_op
      exact ⟨_, fun q => Calls.ext_of (HQH10.out q.x), rfl⟩
    simp only [Act.put, List.setIfInBounds_toArray, List.set]
    refine upW_late (by rfl) (.agg (byteVals (zerB 32)).toArray) (fun w => run_zeroN _ _ rfl w) ?_
    simp only [Act.put, List.setIfInBounds_toArray, List.set]
    refine upW_late (by rfl) (.bool true) (fun w => run_eqB _ _ _ _ 24 rfl Try.underlying24 rH10 (zerB 32) rfl rfl HLH10.out (zerB_len 32) (by kernel_rfl) true (decide_eq_true (eq_le HLH10.out (zerB_len 32) (by simp only [HVH10.out, le_zer]; exact HZ.out))) w) ?_
    simp only [Act.put, List.setIfInBounds_toArray, List.set]
    refine upW_nil (fun w9 hbs => ?_)
    have HM0' := Lib.hid (HM0.out.ext hbs)
    have HM1' := Lib.hid (HM1.out.ext hbs)
    have HM2' := Lib.hid (HM2.out.ext hbs)
    have HM3' := Lib.hid (HM3.out.ext hbs)
    have HB' := Lib.hid (HB.out.trans (hbs.mono (show N ≤ _ by have := HB.out.size; have := HN.out; omega)))
    clear hbs HB HM0 HM1 HM2 HM3
    have HB := HB'
    have HM0 := HM0'
    have HM1 := HM1'
    have HM2 := HM2'
    have HM3 := HM3'
    clear HB' HM0' HM1' HM2' HM3'
    go_upto_region 10 with fail
    refine wp_region_seq 14 ?_
    simp only [List.take_succ_cons, List.take_zero, List.drop_succ_cons, List.drop_zero]
    refine upW_val (by rfl) (by rfl) (by rfl) ?_
    intro K hK
    go_big_quiet_op
    refine hK _ ?_
    refine upW_val (by rfl) (by rfl) (by rfl) ?_
    intro K hK
    go_big_quiet_op
    refine hK _ ?_
    refine upW_val (by rfl) (by rfl) (by rfl) ?_
    intro K hK
    go_big_quiet_op
    refine hK _ ?_
    refine upW_val (by rfl) (by rfl) (by rfl) ?_
    intro K hK
    go_big_quiet_op
    refine hK _ ?_
    refine upW_val (by rfl) (by rfl) (by rfl) ?_
    intro K hK
    go_big_quiet_op
    refine hK _ ?_
    refine upW_val (by rfl) (by rfl) (by rfl) (fun K hK => quiet_load_row _ _ rfl M2 rfl 24 _ (0, 0) _ HM2.out Try.underlying24 rfl (sN rH3 HLH3.out) (hK _ ?_))
    simp only [Act.put, List.setIfInBounds_toArray, List.set]
    refine upW_late (by rfl) (.agg (byteVals (zerB 32)).toArray) (fun w => run_zeroN _ _ rfl w) ?_
    simp only [Act.put, List.setIfInBounds_toArray, List.set]
    refine upW_late (by rfl) (.bool true) (fun w => run_eqB _ _ _ _ 24 rfl Try.underlying24 rH3 (zerB 32) rfl rfl HLH3.out (zerB_len 32) (by kernel_rfl) true (decide_eq_true (eq_le HLH3.out (zerB_len 32) (by simp only [HVH3.out, le_zer]; exact (by rw [fRoot_nought _ HZ.out])))) w) ?_
    simp only [Act.put, List.setIfInBounds_toArray, List.set]
    refine upW_val (by rfl) (by rfl) (by rfl) ?_
    intro K hK
    go_big_quiet_op
    refine hK _ ?_
    refine upW_val (by rfl) (by rfl) (by rfl) ?_
    intro K hK
    go_big_quiet_op
    refine hK _ ?_
    refine upW_val (by rfl) (by rfl) (by rfl) (fun K hK => quiet_load_row _ _ rfl M3 rfl 24 _ (0, 0) _ HM3.out Try.underlying24 rfl (sN rH5 HLH5.out) (hK _ ?_))
    simp only [Act.put, List.setIfInBounds_toArray, List.set]
    refine upW_late (by rfl) (.agg (byteVals (zerB 32)).toArray) (fun w => run_zeroN _ _ rfl w) ?_
    simp only [Act.put, List.setIfInBounds_toArray, List.set]
    refine upW_late (by rfl) (.bool true) (fun w => run_eqB _ _ _ _ 24 rfl Try.underlying24 rH5 (zerB 32) rfl rfl HLH5.out (zerB_len 32) (by kernel_rfl) true (decide_eq_true (eq_le HLH5.out (zerB_len 32) (by simp only [HVH4.out, HVH5.out, le_zer]; exact (by rw [fRoot_nought _ (by rw [fAdd_two, Nat.mod_mod, Nat.mul_mod, HZ.out, Nat.mul_zero, Nat.zero_mod])])))) w) ?_
    simp only [Act.put, List.setIfInBounds_toArray, List.set]
    refine upW_val (by rfl) (by rfl) (by rfl) ?_
    intro K hK
    go_big_quiet_op
    refine hK _ ?_
    refine upW_nil (fun w10 hbs => ?_)
    have HF := Lib.hid (HB.out.trans (hbs.mono (show N ≤ _ by have := HB.out.size; have := HN.out; omega)))
    clear hbs
    go_wp2
    go_ret
    exact ⟨rfl, HN.out.symm ▸ HF.out⟩
  · have HZ := Lib.hid hzz
    clear hzz
    by_cases hsm : (fRoot (fMul (le a) (le a))).1 = le a % 57896044618658097711785492504343953926634992332820282019728792003956564819949
    · have HSM := Lib.hid hsm
      clear hsm
      cases his : (fRoot (le a)).2 with
      | true =>
        have HIS := Lib.hid his
        clear his
        obtain ⟨rH1, hrH1⟩ : ∃ r, b32 (fMul (le a) (le a)) = r := ⟨_, rfl⟩
        have HQH1 := Lib.hid (fun w => Mul_any a a w HLA0.out HLA0.out)
        rw [hrH1] at HQH1
        have HLH1 := Lib.hid (show rH1.length = 32 by rw [← hrH1]; exact b32_len _)
        have HVH1 := Lib.hid (show le rH1 = fMul (le a) (le a) by rw [← hrH1]; exact le_b32 _ (lt4 (fMul_lt _ _ )))
        clear hrH1
        obtain ⟨rH2, hrH2⟩ : ∃ r, b32 (fRoot (le rH1)).1 = r := ⟨_, rfl⟩
        have HQH2 := Lib.hid (fun w => Root_any rH1 w HLH1.out)
        rw [hrH2, show (fRoot (le rH1)).2 = true from (by simp only [HVH1.out]; exact fRoot_of_sq _ (le_32 a HLA0.out))] at HQH2
        have HLH2 := Lib.hid (show rH2.length = 32 by rw [← hrH2]; exact b32_len _)
        have HVH2 := Lib.hid (show le rH2 = (fRoot (le rH1)).1 by rw [← hrH2]; exact le_b32 _ (lt4 (fRoot_lt _)))
        clear hrH2
        obtain ⟨rH3, hrH3⟩ : ∃ r, b32 (fRoot (le a)).1 = r := ⟨_, rfl⟩
        have HQH3 := Lib.hid (fun w => Root_any a w HLA0.out)
        rw [hrH3, show (fRoot (le a)).2 = true from HIS.out] at HQH3
        have HLH3 := Lib.hid (show rH3.length = 32 by rw [← hrH3]; exact b32_len _)
        have HVH3 := Lib.hid (show le rH3 = (fRoot (le a)).1 by rw [← hrH3]; exact le_b32 _ (lt4 (fRoot_lt _)))
        clear hrH3
        obtain ⟨rH4, hrH4⟩ : ∃ r, b32 (fAdd (le a) (le a)) = r := ⟨_, rfl⟩
        have HQH4 := Lib.hid (fun w => Add_any a a w HLA0.out HLA0.out)
        rw [hrH4] at HQH4
        have HLH4 := Lib.hid (show rH4.length = 32 by rw [← hrH4]; exact b32_len _)
        have HVH4 := Lib.hid (show le rH4 = fAdd (le a) (le a) by rw [← hrH4]; exact le_b32 _ (lt4 (fAdd_lt _ _ )))
        clear hrH4
        obtain ⟨rH5, hrH5⟩ : ∃ r, b32 (fRoot (le rH4)).1 = r := ⟨_, rfl⟩
        have HQH5 := Lib.hid (fun w => Root_any rH4 w HLH4.out)
        rw [hrH5, show (fRoot (le rH4)).2 = false from (by simp only [HVH4.out]; exact (by rw [fRoot_two _ HZ.out, HIS.out]; rfl))] at HQH5
        have HLH5 := Lib.hid (show rH5.length = 32 by rw [← hrH5]; exact b32_len _)
        have HVH5 := Lib.hid (show le rH5 = (fRoot (le rH4)).1 by rw [← hrH5]; exact le_b32 _ (lt4 (fRoot_lt _)))
        clear hrH5
        have HQH6 := Lib.hid (fun w => Odd_any rH2 w HLH2.out)
        rw [show decide (le rH2 % 57896044618658097711785492504343953926634992332820282019728792003956564819949 % 2 = 1) = false from (by rw [HVH2.out]; exact fRoot_odd _)] at HQH6
        obtain ⟨rH7, hrH7⟩ : ∃ r, b32 (fMul (le rH2) (le rH2)) = r := ⟨_, rfl⟩
        have HQH7 := Lib.hid (fun w => Mul_any rH2 rH2 w HLH2.out HLH2.out)
        rw [hrH7] at HQH7
        have HLH7 := Lib.hid (show rH7.length = 32 by rw [← hrH7]; exact b32_len _)
        have HVH7 := Lib.hid (show le rH7 = fMul (le rH2) (le rH2) by rw [← hrH7]; exact le_b32 _ (lt4 (fMul_lt _ _ )))
        clear hrH7
        obtain ⟨rH8, hrH8⟩ : ∃ r, b32 (fMul (le a) (le a)) = r := ⟨_, rfl⟩
        have HQH8 := Lib.hid (fun w => Mul_any a a w HLA0.out HLA0.out)
        rw [hrH8] at HQH8
        have HLH8 := Lib.hid (show rH8.length = 32 by rw [← hrH8]; exact b32_len _)
        have HVH8 := Lib.hid (show le rH8 = fMul (le a) (le a) by rw [← hrH8]; exact le_b32 _ (lt4 (fMul_lt _ _ )))
        clear hrH8
        obtain ⟨rH9, hrH9⟩ : ∃ r, b32 (le a % 57896044618658097711785492504343953926634992332820282019728792003956564819949) = r := ⟨_, rfl⟩
        have HQH9 := Lib.hid (fun w => Rest_any a w HLA0.out)
        rw [hrH9] at HQH9
        have HLH9 := Lib.hid (show rH9.length = 32 by rw [← hrH9]; exact b32_len _)
        have HVH9 := Lib.hid (show le rH9 = le a % 57896044618658097711785492504343953926634992332820282019728792003956564819949 by rw [← hrH9]; exact le_b32 _ (lt4 (Nat.mod_lt _ P_pos)))
        clear hrH9
        obtain ⟨rH10, hrH10⟩ : ∃ r, b32 (le a % 57896044618658097711785492504343953926634992332820282019728792003956564819949) = r := ⟨_, rfl⟩
        have HQH10 := Lib.hid (fun w => Rest_any a w HLA0.out)
        rw [hrH10] at HQH10
        have HLH10 := Lib.hid (show rH10.length = 32 by rw [← hrH10]; exact b32_len _)
        have HVH10 := Lib.hid (show le rH10 = le a % 57896044618658097711785492504343953926634992332820282019728792003956564819949 by rw [← hrH10]; exact le_b32 _ (lt4 (Nat.mod_lt _ P_pos)))
        clear hrH10
        obtain ⟨rH11, hrH11⟩ : ∃ r, b32 (fMul (le rH3) (le rH3)) = r := ⟨_, rfl⟩
        have HQH11 := Lib.hid (fun w => Mul_any rH3 rH3 w HLH3.out HLH3.out)
        rw [hrH11] at HQH11
        have HLH11 := Lib.hid (show rH11.length = 32 by rw [← hrH11]; exact b32_len _)
        have HVH11 := Lib.hid (show le rH11 = fMul (le rH3) (le rH3) by rw [← hrH11]; exact le_b32 _ (lt4 (fMul_lt _ _ )))
        clear hrH11
        obtain ⟨rH12, hrH12⟩ : ∃ r, b32 (le a % 57896044618658097711785492504343953926634992332820282019728792003956564819949) = r := ⟨_, rfl⟩
        have HQH12 := Lib.hid (fun w => Rest_any a w HLA0.out)
        rw [hrH12] at HQH12
        have HLH12 := Lib.hid (show rH12.length = 32 by rw [← hrH12]; exact b32_len _)
        have HVH12 := Lib.hid (show le rH12 = le a % 57896044618658097711785492504343953926634992332820282019728792003956564819949 by rw [← hrH12]; exact le_b32 _ (lt4 (Nat.mod_lt _ P_pos)))
        clear hrH12
        have HQH13 := Lib.hid (fun w => Odd_any rH3 w HLH3.out)
        rw [show decide (le rH3 % 57896044618658097711785492504343953926634992332820282019728792003956564819949 % 2 = 1) = false from (by rw [HVH3.out]; exact fRoot_odd _)] at HQH13
        go_enter Try.func7, Try.ntmps7
        go_upto_region 1 with fail
        generalize hW1 : World.alloc _ _ = W1
        obtain ⟨N, hN⟩ : ∃ n, w.heap.size = n := ⟨_, rfl⟩
        have HX0 := Lib.hid (show BT W1 N 23 a by subst hW1; rw [← hN]; exact Go.heap_alloc_new _ _)
        have HB := Lib.hid (show Below N w W1 by subst hW1; rw [← hN]; exact (Below.refl _ w).alloc (Nat.le_refl _) _)
        have HN := Lib.hid hN
        rw [hN]
        clear hW1 hN
        go_wp2_with fail
        refine (awake_any _).mono ?_
        rintro e wa ⟨rfl, hba⟩
        have HX0' := Lib.hid (HX0.out.ext hba)
        have HB' := Lib.hid (HB.out.trans (hba.mono (show N ≤ _ by have := HX0.out.lt; omega)))
        clear hba HB HX0
        have HB := HB'
        have HX0 := HX0'
        clear HB' HX0'
        go_upto_region 3 with fail
        refine wp_region_seq 1 ?_
        simp only [List.take_succ_cons, List.take_zero, List.drop_succ_cons, List.drop_zero]
        refine upW_val (by rfl) (by rfl) (by rfl) (fun K hK => quiet_load_row _ _ rfl N rfl 23 _ (0, 0) _ HX0.out Try.underlying23 rfl (sB a HLA0.out) (hK _ ?_))
        simp only [Act.put, List.setIfInBounds_toArray, List.set]
        refine upW_nil (fun ws0 hbs0 => ?_)
        go_wp2_with (refine wpList_store_row rfl 24 _ _ rfl ws0.heap.size ((byteVals a).toArray) rfl rfl 24 _ (Go.heap_alloc_new _ _) (sN a HLA0.out) ?hold (byteVals_one _) (Stop.out ?_))
        case hold => rw [size_byteVals, size_byteVals, zerB_len, HLA0.out]
        generalize hWS : World.setRow _ _ _ = W0
        obtain ⟨M0, hM⟩ : ∃ n, ws0.heap.size = n := ⟨_, rfl⟩
        have HM0 := Lib.hid (show BT W0 M0 24 a by subst hWS; rw [← hM]; exact setRow_heap _ _ _ _ _ _ (Go.heap_alloc_new _ _))
        have HB' := Lib.hid (show Below N w W0 by subst hWS; exact Below.setRow ((HB.out.trans (hbs0.mono (show N ≤ _ by have := HB.out.size; have := HN.out; omega))).alloc (by have := hbs0.size; have := HB.out.size; have := HN.out; omega) _) (by have := hbs0.size; have := HB.out.size; have := HN.out; omega) _)
        rw [hM]
        clear hWS hM hbs0 HB 
        have HB := HB'
        clear HB' 
        refine ⟨?_⟩
        go_upto_region 4 with fail
        refine wp_region_seq 7 ?_
        simp only [List.take_succ_cons, List.take_zero, List.drop_succ_cons, List.drop_zero]
        refine upW_val (by rfl) (by rfl) (by rfl) (fun K hK => quiet_load_row _ _ rfl M0 rfl 24 _ (0, 0) _ HM0.out Try.underlying24 rfl (sN a HLA0.out) (hK _ ?_))
        simp only [Act.put, List.setIfInBounds_toArray, List.set]
        refine upW_val (by rfl) (by rfl) (by rfl) (fun K hK => quiet_load_row _ _ rfl M0 rfl 24 _ (0, 0) _ HM0.out Try.underlying24 rfl (sN a HLA0.out) (hK _ ?_))
        simp only [Act.put, List.setIfInBounds_toArray, List.set]
        refine upW_call (by rfl) (by rfl) (.agg (byteVals rH1).toArray) _ rfl (by simp) (fun p => ?_) ?_
        · go_big_quiet_op
          exact ⟨_, fun q => Calls.ext_of (HQH1.out q.x), rfl⟩
        simp only [Act.put, List.setIfInBounds_toArray, List.set]
        refine upW_call (by rfl) (by rfl) (.tuple #[.agg (byteVals rH2).toArray, .bool true]) _ rfl (by simp) (fun p => ?_) ?_
        · go_big_quiet_op
          exact ⟨_, fun q => Calls.ext_of (HQH2.out q.x), rfl⟩
        simp only [Act.put, List.setIfInBounds_toArray, List.set]
        refine upW_val (by rfl) (by rfl) (by rfl) ?_
        intro K hK
        go_big_quiet_op
        refine hK _ ?_
        refine upW_late (by rfl) (.agg (byteVals rH2).toArray) (fun _ => rfl) ?_
        simp only [Act.put, List.setIfInBounds_toArray, List.set]
        refine upW_late (by rfl) (.bool true) (fun _ => rfl) ?_
        simp only [Act.put, List.setIfInBounds_toArray, List.set]
        refine upW_nil (fun ws1 hbs1 => ?_)
        go_wp2_with (refine wpList_store_row rfl 24 _ _ rfl ws1.heap.size ((byteVals rH2).toArray) rfl rfl 24 _ (Go.heap_alloc_new _ _) (sN rH2 HLH2.out) ?hold (byteVals_one _) (Stop.out ?_))
        case hold => rw [size_byteVals, size_byteVals, zerB_len, HLH2.out]
        generalize hWS : World.setRow _ _ _ = W1
        obtain ⟨M1, hM⟩ : ∃ n, ws1.heap.size = n := ⟨_, rfl⟩
        have HM1 := Lib.hid (show BT W1 M1 24 rH2 by subst hWS; rw [← hM]; exact setRow_heap _ _ _ _ _ _ (Go.heap_alloc_new _ _))
        have HM0' := Lib.hid (show BT W1 M0 24 a by subst hWS; exact (HM0.out.ext hbs1).other ((setRow_other _ _ _ _ (by rw [hM]; have := (HM0.out.ext hbs1).lt; omega)).trans (Go.heap_alloc_old _ _ (HM0.out.ext hbs1).lt)))
        have HB' := Lib.hid (show Below N w W1 by subst hWS; exact Below.setRow ((HB.out.trans (hbs1.mono (show N ≤ _ by have := HB.out.size; have := HN.out; omega))).alloc (by have := hbs1.size; have := HB.out.size; have := HN.out; omega) _) (by have := hbs1.size; have := HB.out.size; have := HN.out; omega) _)
        rw [hM]
        clear hWS hM hbs1 HB HM0
        have HB := HB'
        have HM0 := HM0'
        clear HB' HM0'
        refine ⟨?_⟩
        go_upto_region 5 with fail
        refine wp_region_seq 5 ?_
        simp only [List.take_succ_cons, List.take_zero, List.drop_succ_cons, List.drop_zero]
        refine upW_val (by rfl) (by rfl) (by rfl) (fun K hK => quiet_load_row _ _ rfl M0 rfl 24 _ (0, 0) _ HM0.out Try.underlying24 rfl (sN a HLA0.out) (hK _ ?_))
        simp only [Act.put, List.setIfInBounds_toArray, List.set]
        refine upW_call (by rfl) (by rfl) (.tuple #[.agg (byteVals rH3).toArray, .bool true]) _ rfl (by simp) (fun p => ?_) ?_
        · go_big_quiet_op
          exact ⟨_, fun q => Calls.ext_of (HQH3.out q.x), rfl⟩
        simp only [Act.put, List.setIfInBounds_toArray, List.set]
        refine upW_val (by rfl) (by rfl) (by rfl) ?_
        intro K hK
        go_big_quiet_op
        refine hK _ ?_
        refine upW_late (by rfl) (.agg (byteVals rH3).toArray) (fun _ => rfl) ?_
        simp only [Act.put, List.setIfInBounds_toArray, List.set]
        refine upW_late (by rfl) (.bool true) (fun _ => rfl) ?_
        simp only [Act.put, List.setIfInBounds_toArray, List.set]
        refine upW_nil (fun ws2 hbs2 => ?_)
        go_wp2_with (refine wpList_store_row rfl 24 _ _ rfl ws2.heap.size ((byteVals rH3).toArray) rfl rfl 24 _ (Go.heap_alloc_new _ _) (sN rH3 HLH3.out) ?hold (byteVals_one _) (Stop.out ?_))
        case hold => rw [size_byteVals, size_byteVals, zerB_len, HLH3.out]
        generalize hWS : World.setRow _ _ _ = W2
        obtain ⟨M2, hM⟩ : ∃ n, ws2.heap.size = n := ⟨_, rfl⟩
        have HM2 := Lib.hid (show BT W2 M2 24 rH3 by subst hWS; rw [← hM]; exact setRow_heap _ _ _ _ _ _ (Go.heap_alloc_new _ _))
        have HM0' := Lib.hid (show BT W2 M0 24 a by subst hWS; exact (HM0.out.ext hbs2).other ((setRow_other _ _ _ _ (by rw [hM]; have := (HM0.out.ext hbs2).lt; omega)).trans (Go.heap_alloc_old _ _ (HM0.out.ext hbs2).lt)))
        have HM1' := Lib.hid (show BT W2 M1 24 rH2 by subst hWS; exact (HM1.out.ext hbs2).other ((setRow_other _ _ _ _ (by rw [hM]; have := (HM1.out.ext hbs2).lt; omega)).trans (Go.heap_alloc_old _ _ (HM1.out.ext hbs2).lt)))
        have HB' := Lib.hid (show Below N w W2 by subst hWS; exact Below.setRow ((HB.out.trans (hbs2.mono (show N ≤ _ by have := HB.out.size; have := HN.out; omega))).alloc (by have := hbs2.size; have := HB.out.size; have := HN.out; omega) _) (by have := hbs2.size; have := HB.out.size; have := HN.out; omega) _)
        rw [hM]
        clear hWS hM hbs2 HB HM0 HM1
        have HB := HB'
        have HM0 := HM0'
        have HM1 := HM1'
        clear HB' HM0' HM1'
        refine ⟨?_⟩
        go_upto_region 6 with fail
        refine wp_region_seq 7 ?_
        simp only [List.take_succ_cons, List.take_zero, List.drop_succ_cons, List.drop_zero]
        refine upW_val (by rfl) (by rfl) (by rfl) (fun K hK => quiet_load_row _ _ rfl M0 rfl 24 _ (0, 0) _ HM0.out Try.underlying24 rfl (sN a HLA0.out) (hK _ ?_))
        simp only [Act.put, List.setIfInBounds_toArray, List.set]
        refine upW_val (by rfl) (by rfl) (by rfl) (fun K hK => quiet_load_row _ _ rfl M0 rfl 24 _ (0, 0) _ HM0.out Try.underlying24 rfl (sN a HLA0.out) (hK _ ?_))
        simp only [Act.put, List.setIfInBounds_toArray, List.set]
        refine upW_call (by rfl) (by rfl) (.agg (byteVals rH4).toArray) _ rfl (by simp) (fun p => ?_) ?_
        · go_big_quiet_op
          exact ⟨_, fun q => Calls.ext_of (HQH4.out q.x), rfl⟩
        simp only [Act.put, List.setIfInBounds_toArray, List.set]
        refine upW_call (by rfl) (by rfl) (.tuple #[.agg (byteVals rH5).toArray, .bool false]) _ rfl (by simp) (fun p => ?_) ?_
        · go_big_quiet_op
          exact ⟨_, fun q => Calls.ext_of (HQH5.out q.x), rfl⟩
        simp only [Act.put, List.setIfInBounds_toArray, List.set]
        refine upW_val (by rfl) (by rfl) (by rfl) ?_
        intro K hK
        go_big_quiet_op
        refine hK _ ?_
        refine upW_late (by rfl) (.agg (byteVals rH5).toArray) (fun _ => rfl) ?_
        simp only [Act.put, List.setIfInBounds_toArray, List.set]
        refine upW_late (by rfl) (.bool false) (fun _ => rfl) ?_
        simp only [Act.put, List.setIfInBounds_toArray, List.set]
        refine upW_nil (fun ws3 hbs3 => ?_)
        go_wp2_with (refine wpList_store_row rfl 24 _ _ rfl ws3.heap.size ((byteVals rH5).toArray) rfl rfl 24 _ (Go.heap_alloc_new _ _) (sN rH5 HLH5.out) ?hold (byteVals_one _) (Stop.out ?_))
        case hold => rw [size_byteVals, size_byteVals, zerB_len, HLH5.out]
        generalize hWS : World.setRow _ _ _ = W3
        obtain ⟨M3, hM⟩ : ∃ n, ws3.heap.size = n := ⟨_, rfl⟩
        have HM3 := Lib.hid (show BT W3 M3 24 rH5 by subst hWS; rw [← hM]; exact setRow_heap _ _ _ _ _ _ (Go.heap_alloc_new _ _))
        have HM0' := Lib.hid (show BT W3 M0 24 a by subst hWS; exact (HM0.out.ext hbs3).other ((setRow_other _ _ _ _ (by rw [hM]; have := (HM0.out.ext hbs3).lt; omega)).trans (Go.heap_alloc_old _ _ (HM0.out.ext hbs3).lt)))
        have HM1' := Lib.hid (show BT W3 M1 24 rH2 by subst hWS; exact (HM1.out.ext hbs3).other ((setRow_other _ _ _ _ (by rw [hM]; have := (HM1.out.ext hbs3).lt; omega)).trans (Go.heap_alloc_old _ _ (HM1.out.ext hbs3).lt)))
        have HM2' := Lib.hid (show BT W3 M2 24 rH3 by subst hWS; exact (HM2.out.ext hbs3).other ((setRow_other _ _ _ _ (by rw [hM]; have := (HM2.out.ext hbs3).lt; omega)).trans (Go.heap_alloc_old _ _ (HM2.out.ext hbs3).lt)))
        have HB' := Lib.hid (show Below N w W3 by subst hWS; exact Below.setRow ((HB.out.trans (hbs3.mono (show N ≤ _ by have := HB.out.size; have := HN.out; omega))).alloc (by have := hbs3.size; have := HB.out.size; have := HN.out; omega) _) (by have := hbs3.size; have := HB.out.size; have := HN.out; omega) _)
        rw [hM]
        clear hWS hM hbs3 HB HM0 HM1 HM2
        have HB := HB'
        have HM0 := HM0'
        have HM1 := HM1'
        have HM2 := HM2'
        clear HB' HM0' HM1' HM2'
        refine ⟨?_⟩
        go_wp2_with fail
        refine wp_region_whole (List.range 28) [] [] (by kernel_rfl) (by kernel_rfl) (List.forall_mem_nil _) rfl ?_
        simp only [List.foldl]
        refine upW_val (by rfl) (by rfl) (by rfl) ?_
        intro K hK
        go_big_quiet_op
        refine hK _ ?_
        refine upW_val (by rfl) (by rfl) (by rfl) ?_
        intro K hK
        go_big_quiet_op
        refine hK _ ?_
        refine upW_val (by rfl) (by rfl) (by rfl) ?_
        intro K hK
        go_big_quiet_op
        refine hK _ ?_
        refine upW_val (by rfl) (by rfl) (by rfl) (fun K hK => quiet_load_row _ _ rfl M1 rfl 24 _ (0, 0) _ HM1.out Try.underlying24 rfl (sN rH2 HLH2.out) (hK _ ?_))
        simp only [Act.put, List.setIfInBounds_toArray, List.set]
        refine upW_call (by rfl) (by rfl) (.bool false) _ rfl (by simp) (fun p => ?_) ?_
        · go_big_quiet_op
          exact ⟨_, fun q => Calls.ext_of (HQH6.out q.x), rfl⟩
        simp only [Act.put, List.setIfInBounds_toArray, List.set]
        refine upW_val (by rfl) (by rfl) (by rfl) ?_
        intro K hK
        go_big_quiet_op
        refine hK _ ?_
        refine upW_val (by rfl) (by rfl) (by rfl) ?_
        intro K hK
        go_big_quiet_op
        refine hK _ ?_
        refine upW_val (by rfl) (by rfl) (by rfl) (fun K hK => quiet_load_row _ _ rfl M1 rfl 24 _ (0, 0) _ HM1.out Try.underlying24 rfl (sN rH2 HLH2.out) (hK _ ?_))
        simp only [Act.put, List.setIfInBounds_toArray, List.set]
        refine upW_val (by rfl) (by rfl) (by rfl) (fun K hK => quiet_load_row _ _ rfl M1 rfl 24 _ (0, 0) _ HM1.out Try.underlying24 rfl (sN rH2 HLH2.out) (hK _ ?_))
        simp only [Act.put, List.setIfInBounds_toArray, List.set]
        refine upW_call (by rfl) (by rfl) (.agg (byteVals rH7).toArray) _ rfl (by simp) (fun p => ?_) ?_
        · go_big_quiet_op
          exact ⟨_, fun q => Calls.ext_of (HQH7.out q.x), rfl⟩
        simp only [Act.put, List.setIfInBounds_toArray, List.set]
        refine upW_val (by rfl) (by rfl) (by rfl) (fun K hK => quiet_load_row _ _ rfl M0 rfl 24 _ (0, 0) _ HM0.out Try.underlying24 rfl (sN a HLA0.out) (hK _ ?_))
        simp only [Act.put, List.setIfInBounds_toArray, List.set]
        refine upW_val (by rfl) (by rfl) (by rfl) (fun K hK => quiet_load_row _ _ rfl M0 rfl 24 _ (0, 0) _ HM0.out Try.underlying24 rfl (sN a HLA0.out) (hK _ ?_))
        simp only [Act.put, List.setIfInBounds_toArray, List.set]
        refine upW_call (by rfl) (by rfl) (.agg (byteVals rH8).toArray) _ rfl (by simp) (fun p => ?_) ?_
        · go_big_quiet_op
          exact ⟨_, fun q => Calls.ext_of (HQH8.out q.x), rfl⟩
        simp only [Act.put, List.setIfInBounds_toArray, List.set]
        refine upW_late (by rfl) (.bool false) (fun w => run_neB _ _ _ _ 24 rfl Try.underlying24 rH7 rH8 rfl rfl HLH7.out HLH8.out (by kernel_rfl) false (by rw [show decide (rH7 = rH8) = true from (decide_eq_true (eq_le HLH7.out HLH8.out (by simp only [HVH1.out, HVH2.out, HVH7.out, HVH8.out]; exact (by rw [fMul_root _ (fRoot_of_sq _ (le_32 a HLA0.out)), fMul_mod]))))]; rfl) w) ?_
        simp only [Act.put, List.setIfInBounds_toArray, List.set]
        refine upW_val (by rfl) (by rfl) (by rfl) ?_
        intro K hK
        go_big_quiet_op
        refine hK _ ?_
        refine upW_val (by rfl) (by rfl) (by rfl) ?_
        intro K hK
        go_big_quiet_op
        refine hK _ ?_
        refine upW_val (by rfl) (by rfl) (by rfl) (fun K hK => quiet_load_row _ _ rfl M1 rfl 24 _ (0, 0) _ HM1.out Try.underlying24 rfl (sN rH2 HLH2.out) (hK _ ?_))
        simp only [Act.put, List.setIfInBounds_toArray, List.set]
        refine upW_val (by rfl) (by rfl) (by rfl) (fun K hK => quiet_load_row _ _ rfl M0 rfl 24 _ (0, 0) _ HM0.out Try.underlying24 rfl (sN a HLA0.out) (hK _ ?_))
        simp only [Act.put, List.setIfInBounds_toArray, List.set]
        refine upW_call (by rfl) (by rfl) (.agg (byteVals rH9).toArray) _ rfl (by simp) (fun p => ?_) ?_
        · go_big_quiet_op
          exact ⟨_, fun q => Calls.ext_of (HQH9.out q.x), rfl⟩
        simp only [Act.put, List.setIfInBounds_toArray, List.set]
        refine upW_late (by rfl) (.bool false) (fun w => run_neB _ _ _ _ 24 rfl Try.underlying24 rH2 rH9 rfl rfl HLH2.out HLH9.out (by kernel_rfl) false (by rw [show decide (rH2 = rH9) = true from (decide_eq_true (eq_le HLH2.out HLH9.out (by simp only [HVH1.out, HVH2.out, HVH9.out]; exact HSM.out)))]; rfl) w) ?_
        simp only [Act.put, List.setIfInBounds_toArray, List.set]
        refine upW_val (by rfl) (by rfl) (by rfl) ?_
        intro K hK
        go_big_quiet_op
        refine hK _ ?_
        refine upW_skip (by rfl) ?_
        simp only [Act.put, List.setIfInBounds_toArray, List.set]
        refine upW_skip (by rfl) ?_
        simp only [Act.put, List.setIfInBounds_toArray, List.set]
        refine upW_skip (by rfl) ?_
        simp only [Act.put, List.setIfInBounds_toArray, List.set]
        refine upW_skip (by rfl) ?_
        simp only [Act.put, List.setIfInBounds_toArray, List.set]
        refine upW_skip (by rfl) ?_
        simp only [Act.put, List.setIfInBounds_toArray, List.set]
        refine upW_val (by rfl) (by rfl) (by rfl) ?_
        intro K hK
        go_big_quiet_op
        refine hK _ ?_
        refine upW_val (by rfl) (by rfl) (by rfl) ?_
        intro K hK
        go_big_quiet_op
        refine hK _ ?_
        refine upW_nil ⟨List.forall_mem_nil _, fun _ w7 _ _ hbs => ?_⟩
        simp only [List.foldr]
        have HM0' := Lib.hid (HM0.out.ext hbs)
        have HM1' := Lib.hid (HM1.out.ext hbs)
        have HM2' := Lib.hid (HM2.out.ext hbs)
        have HM3' := Lib.hid (HM3.out.ext hbs)
        have HB' := Lib.hid (HB.out.trans (hbs.mono (show N ≤ _ by have := HB.out.size; have := HN.out; omega)))
        clear hbs HB HM0 HM1 HM2 HM3
        have HB := HB'
        have HM0 := HM0'
        have HM1 := HM1'
        have HM2 := HM2'
        have HM3 := HM3'
        clear HB' HM0' HM1' HM2' HM3'
        go_upto_region 9 with fail
        refine wp_region_seq 4 ?_
        simp only [List.take_succ_cons, List.take_zero, List.drop_succ_cons, List.drop_zero]
        refine upW_val (by rfl) (by rfl) (by rfl) (fun K hK => quiet_load_row _ _ rfl M0 rfl 24 _ (0, 0) _ HM0.out Try.underlying24 rfl (sN a HLA0.out) (hK _ ?_))
        simp only [Act.put, List.setIfInBounds_toArray, List.set]
        refine upW_call (by rfl) (by rfl) (.agg (byteVals rH10).toArray) _ rfl (by simp) (fun p => ?_) ?_
        · go_big_quiet_op
          exact ⟨_, fun q => Calls.ext_of (HQH10.out q.x), rfl⟩
        simp only [Act.put, List.setIfInBounds_toArray, List.set]
        refine upW_late (by rfl) (.agg (byteVals (zerB 32)).toArray) (fun w => run_zeroN _ _ rfl w) ?_
        simp only [Act.put, List.setIfInBounds_toArray, List.set]
        refine upW_late (by rfl) (.bool false) (fun w => run_eqB _ _ _ _ 24 rfl Try.underlying24 rH10 (zerB 32) rfl rfl HLH10.out (zerB_len 32) (by kernel_rfl) false (decide_eq_false (fun h => by have h := congrArg le h; simp only [HVH10.out, le_zer] at h; exact HZ.out h)) w) ?_
        simp only [Act.put, List.setIfInBounds_toArray, List.set]
        refine upW_nil (fun w9 hbs => ?_)
        have HM0' := Lib.hid (HM0.out.ext hbs)
        have HM1' := Lib.hid (HM1.out.ext hbs)
        have HM2' := Lib.hid (HM2.out.ext hbs)
        have HM3' := Lib.hid (HM3.out.ext hbs)
        have HB' := Lib.hid (HB.out.trans (hbs.mono (show N ≤ _ by have := HB.out.size; have := HN.out; omega)))
        clear hbs HB HM0 HM1 HM2 HM3
        have HB := HB'
        have HM0 := HM0'
        have HM1 := HM1'
        have HM2 := HM2'
        have HM3 := HM3'
        clear HB' HM0' HM1' HM2' HM3'
        go_wp2_with fail
        refine wp_region_up 41 41 (by kernel_rfl) (by kernel_rfl) (fun _ _ dst _ _ h => by cases dst <;> exact h) ?_
        simp only [List.take_succ_cons, List.take_zero, List.drop_succ_cons, List.drop_zero]
        refine upW_val (by rfl) (by rfl) (by rfl) ?_
        intro K hK
        go_big_quiet_op
        refine hK _ ?_
        refine upW_val (by rfl) (by rfl) (by rfl) ?_
        intro K hK
        go_big_quiet_op
        refine hK _ ?_
        refine upW_val (by rfl) (by rfl) (by rfl) ?_
        intro K hK
        go_big_quiet_op
        refine hK _ ?_
        refine upW_val (by rfl) (by rfl) (by rfl) ?_
        intro K hK
        go_big_quiet_op
        refine hK _ ?_
        refine upW_val (by rfl) (by rfl) (by rfl) ?_
        intro K hK
        go_big_quiet_op
        refine hK _ ?_
        refine upW_val (by rfl) (by rfl) (by rfl) ?_
        intro K hK
        go_big_quiet_op
        refine hK _ ?_
        refine upW_val (by rfl) (by rfl) (by rfl) ?_
        intro K hK
        go_big_quiet_op
        refine hK _ ?_
        refine upW_val (by rfl) (by rfl) (by rfl) (fun K hK => quiet_load_row _ _ rfl M2 rfl 24 _ (0, 0) _ HM2.out Try.underlying24 rfl (sN rH3 HLH3.out) (hK _ ?_))
        simp only [Act.put, List.setIfInBounds_toArray, List.set]
        refine upW_val (by rfl) (by rfl) (by rfl) (fun K hK => quiet_load_row _ _ rfl M2 rfl 24 _ (0, 0) _ HM2.out Try.underlying24 rfl (sN rH3 HLH3.out) (hK _ ?_))
        simp only [Act.put, List.setIfInBounds_toArray, List.set]
        refine upW_call (by rfl) (by rfl) (.agg (byteVals rH11).toArray) _ rfl (by simp) (fun p => ?_) ?_
        · go_big_quiet_op
          exact ⟨_, fun q => Calls.ext_of (HQH11.out q.x), rfl⟩
        simp only [Act.put, List.setIfInBounds_toArray, List.set]
        refine upW_val (by rfl) (by rfl) (by rfl) (fun K hK => quiet_load_row _ _ rfl M0 rfl 24 _ (0, 0) _ HM0.out Try.underlying24 rfl (sN a HLA0.out) (hK _ ?_))
        simp only [Act.put, List.setIfInBounds_toArray, List.set]
        refine upW_call (by rfl) (by rfl) (.agg (byteVals rH12).toArray) _ rfl (by simp) (fun p => ?_) ?_
        · go_big_quiet_op
          exact ⟨_, fun q => Calls.ext_of (HQH12.out q.x), rfl⟩
        simp only [Act.put, List.setIfInBounds_toArray, List.set]
        refine upW_late (by rfl) (.bool true) (fun w => run_eqB _ _ _ _ 24 rfl Try.underlying24 rH11 rH12 rfl rfl HLH11.out HLH12.out (by kernel_rfl) true (decide_eq_true (eq_le HLH11.out HLH12.out (by simp only [HVH3.out, HVH11.out, HVH12.out]; exact (fMul_root _ HIS.out)))) w) ?_
        simp only [Act.put, List.setIfInBounds_toArray, List.set]
        refine upW_val (by rfl) (by rfl) (by rfl) ?_
        intro K hK
        go_big_quiet_op
        refine hK _ ?_
        refine upW_val (by rfl) (by rfl) (by rfl) (fun K hK => quiet_load_row _ _ rfl M2 rfl 24 _ (0, 0) _ HM2.out Try.underlying24 rfl (sN rH3 HLH3.out) (hK _ ?_))
        simp only [Act.put, List.setIfInBounds_toArray, List.set]
        refine upW_call (by rfl) (by rfl) (.bool false) _ rfl (by simp) (fun p => ?_) ?_
        · go_big_quiet_op
          exact ⟨_, fun q => Calls.ext_of (HQH13.out q.x), rfl⟩
        simp only [Act.put, List.setIfInBounds_toArray, List.set]
        refine upW_val (by rfl) (by rfl) (by rfl) ?_
        intro K hK
        go_big_quiet_op
        refine hK _ ?_
        refine upW_val (by rfl) (by rfl) (by rfl) ?_
        intro K hK
        go_big_quiet_op
        refine hK _ ?_
        refine upW_val (by rfl) (by rfl) (by rfl) ?_
        intro K hK
        go_big_quiet_op
        refine hK _ ?_
        refine upW_val (by rfl) (by rfl) (by rfl) ?_
        intro K hK
        go_big_quiet_op
        refine hK _ ?_
        refine upW_val (by rfl) (by rfl) (by rfl) ?_
        intro K hK
        go_big_quiet_op
        refine hK _ ?_
        refine upW_val (by rfl) (by rfl) (by rfl) ?_
        intro K hK
        go_big_quiet_op
        refine hK _ ?_
        refine upW_val (by rfl) (by rfl) (by rfl) ?_
        intro K hK
        go_big_quiet_op
        refine hK _ ?_
        refine upW_skip (by rfl) ?_
        simp only [Act.put, List.setIfInBounds_toArray, List.set]
        refine upW_skip (by rfl) ?_
        simp only [Act.put, List.setIfInBounds_toArray, List.set]
        refine upW_skip (by rfl) ?_
        simp only [Act.put, List.setIfInBounds_toArray, List.set]
        refine upW_val (by rfl) (by rfl) (by rfl) ?_
        intro K hK
        go_big_quiet_op
        refine hK _ ?_
        refine upW_val (by rfl) (by rfl) (by rfl) ?_
        intro K hK
        go_big_quiet_op
        refine hK _ ?_
        refine upW_val (by rfl) (by rfl) (by rfl) ?_
        intro K hK
        go_big_quiet_op
        refine hK _ ?_
        refine upW_val (by rfl) (by rfl) (by rfl) ?_
        intro K hK
        go_big_quiet_op
        refine hK _ ?_
        refine upW_val (by rfl) (by rfl) (by rfl) ?_
        intro K hK
        go_big_quiet_op
        refine hK _ ?_
        refine upW_val (by rfl) (by rfl) (by rfl) ?_
        intro K hK
        go_big_quiet_op
        refine hK _ ?_
        refine upW_skip (by rfl) ?_
        simp only [Act.put, List.setIfInBounds_toArray, List.set]
        refine upW_skip (by rfl) ?_
        simp only [Act.put, List.setIfInBounds_toArray, List.set]
        refine upW_skip (by rfl) ?_
        simp only [Act.put, List.setIfInBounds_toArray, List.set]
        refine upW_skip (by rfl) ?_
        simp only [Act.put, List.setIfInBounds_toArray, List.set]
        refine upW_skip (by rfl) ?_
        simp only [Act.put, List.setIfInBounds_toArray, List.set]
        refine upW_skip (by rfl) ?_
        simp only [Act.put, List.setIfInBounds_toArray, List.set]
        refine upW_skip (by rfl) ?_
        simp only [Act.put, List.setIfInBounds_toArray, List.set]
        refine upW_val (by rfl) (by rfl) (by rfl) ?_
        intro K hK
        go_big_quiet_op
        refine hK _ ?_
        refine upW_val (by rfl) (by rfl) (by rfl) ?_
        intro K hK
        go_big_quiet_op
        refine hK _ ?_
        refine upW_nil (fun w10 hbs => ?_)
        have HF := Lib.hid (HB.out.trans (hbs.mono (show N ≤ _ by have := HB.out.size; have := HN.out; omega)))
        clear hbs
        go_wp2
        go_ret
        exact ⟨rfl, HN.out.symm ▸ HF.out⟩
      | false =>
        have HIS := Lib.hid his
        clear his
        obtain ⟨rH1, hrH1⟩ : ∃ r, b32 (fMul (le a) (le a)) = r := ⟨_, rfl⟩
        have HQH1 := Lib.hid (fun w => Mul_any a a w HLA0.out HLA0.out)
        rw [hrH1] at HQH1
        have HLH1 := Lib.hid (show rH1.length = 32 by rw [← hrH1]; exact b32_len _)
        have HVH1 := Lib.hid (show le rH1 = fMul (le a) (le a) by rw [← hrH1]; exact le_b32 _ (lt4 (fMul_lt _ _ )))
        clear hrH1
        obtain ⟨rH2, hrH2⟩ : ∃ r, b32 (fRoot (le rH1)).1 = r := ⟨_, rfl⟩
        have HQH2 := Lib.hid (fun w => Root_any rH1 w HLH1.out)
        rw [hrH2, show (fRoot (le rH1)).2 = true from (by simp only [HVH1.out]; exact fRoot_of_sq _ (le_32 a HLA0.out))] at HQH2
        have HLH2 := Lib.hid (show rH2.length = 32 by rw [← hrH2]; exact b32_len _)
        have HVH2 := Lib.hid (show le rH2 = (fRoot (le rH1)).1 by rw [← hrH2]; exact le_b32 _ (lt4 (fRoot_lt _)))
        clear hrH2
        obtain ⟨rH3, hrH3⟩ : ∃ r, b32 (fRoot (le a)).1 = r := ⟨_, rfl⟩
        have HQH3 := Lib.hid (fun w => Root_any a w HLA0.out)
        rw [hrH3, show (fRoot (le a)).2 = false from HIS.out] at HQH3
        have HLH3 := Lib.hid (show rH3.length = 32 by rw [← hrH3]; exact b32_len _)
        have HVH3 := Lib.hid (show le rH3 = (fRoot (le a)).1 by rw [← hrH3]; exact le_b32 _ (lt4 (fRoot_lt _)))
        clear hrH3
        obtain ⟨rH4, hrH4⟩ : ∃ r, b32 (fAdd (le a) (le a)) = r := ⟨_, rfl⟩
        have HQH4 := Lib.hid (fun w => Add_any a a w HLA0.out HLA0.out)
        rw [hrH4] at HQH4
        have HLH4 := Lib.hid (show rH4.length = 32 by rw [← hrH4]; exact b32_len _)
        have HVH4 := Lib.hid (show le rH4 = fAdd (le a) (le a) by rw [← hrH4]; exact le_b32 _ (lt4 (fAdd_lt _ _ )))
        clear hrH4
        obtain ⟨rH5, hrH5⟩ : ∃ r, b32 (fRoot (le rH4)).1 = r := ⟨_, rfl⟩
        have HQH5 := Lib.hid (fun w => Root_any rH4 w HLH4.out)
        rw [hrH5, show (fRoot (le rH4)).2 = true from (by simp only [HVH4.out]; exact (by rw [fRoot_two _ HZ.out, HIS.out]; rfl))] at HQH5
        have HLH5 := Lib.hid (show rH5.length = 32 by rw [← hrH5]; exact b32_len _)
        have HVH5 := Lib.hid (show le rH5 = (fRoot (le rH4)).1 by rw [← hrH5]; exact le_b32 _ (lt4 (fRoot_lt _)))
        clear hrH5
        have HQH6 := Lib.hid (fun w => Odd_any rH2 w HLH2.out)
        rw [show decide (le rH2 % 57896044618658097711785492504343953926634992332820282019728792003956564819949 % 2 = 1) = false from (by rw [HVH2.out]; exact fRoot_odd _)] at HQH6
        obtain ⟨rH7, hrH7⟩ : ∃ r, b32 (fMul (le rH2) (le rH2)) = r := ⟨_, rfl⟩
        have HQH7 := Lib.hid (fun w => Mul_any rH2 rH2 w HLH2.out HLH2.out)
        rw [hrH7] at HQH7
        have HLH7 := Lib.hid (show rH7.length = 32 by rw [← hrH7]; exact b32_len _)
        have HVH7 := Lib.hid (show le rH7 = fMul (le rH2) (le rH2) by rw [← hrH7]; exact le_b32 _ (lt4 (fMul_lt _ _ )))
        clear hrH7
        obtain ⟨rH8, hrH8⟩ : ∃ r, b32 (fMul (le a) (le a)) = r := ⟨_, rfl⟩
        have HQH8 := Lib.hid (fun w => Mul_any a a w HLA0.out HLA0.out)
        rw [hrH8] at HQH8
        have HLH8 := Lib.hid (show rH8.length = 32 by rw [← hrH8]; exact b32_len _)
        have HVH8 := Lib.hid (show le rH8 = fMul (le a) (le a) by rw [← hrH8]; exact le_b32 _ (lt4 (fMul_lt _ _ )))
        clear hrH8
        obtain ⟨rH9, hrH9⟩ : ∃ r, b32 (le a % 57896044618658097711785492504343953926634992332820282019728792003956564819949) = r := ⟨_, rfl⟩
        have HQH9 := Lib.hid (fun w => Rest_any a w HLA0.out)
        rw [hrH9] at HQH9
        have HLH9 := Lib.hid (show rH9.length = 32 by rw [← hrH9]; exact b32_len _)
        have HVH9 := Lib.hid (show le rH9 = le a % 57896044618658097711785492504343953926634992332820282019728792003956564819949 by rw [← hrH9]; exact le_b32 _ (lt4 (Nat.mod_lt _ P_pos)))
        clear hrH9
        obtain ⟨rH10, hrH10⟩ : ∃ r, b32 (le a % 57896044618658097711785492504343953926634992332820282019728792003956564819949) = r := ⟨_, rfl⟩
        have HQH10 := Lib.hid (fun w => Rest_any a w HLA0.out)
        rw [hrH10] at HQH10
        have HLH10 := Lib.hid (show rH10.length = 32 by rw [← hrH10]; exact b32_len _)
        have HVH10 := Lib.hid (show le rH10 = le a % 57896044618658097711785492504343953926634992332820282019728792003956564819949 by rw [← hrH10]; exact le_b32 _ (lt4 (Nat.mod_lt _ P_pos)))
        clear hrH10
        obtain ⟨rH11, hrH11⟩ : ∃ r, b32 (fMul (le rH5) (le rH5)) = r := ⟨_, rfl⟩
        have HQH11 := Lib.hid (fun w => Mul_any rH5 rH5 w HLH5.out HLH5.out)
        rw [hrH11] at HQH11
        have HLH11 := Lib.hid (show rH11.length = 32 by rw [← hrH11]; exact b32_len _)
        have HVH11 := Lib.hid (show le rH11 = fMul (le rH5) (le rH5) by rw [← hrH11]; exact le_b32 _ (lt4 (fMul_lt _ _ )))
        clear hrH11
        obtain ⟨rH12, hrH12⟩ : ∃ r, b32 (fAdd (le a) (le a)) = r := ⟨_, rfl⟩
        have HQH12 := Lib.hid (fun w => Add_any a a w HLA0.out HLA0.out)
        rw [hrH12] at HQH12
        have HLH12 := Lib.hid (show rH12.length = 32 by rw [← hrH12]; exact b32_len _)
        have HVH12 := Lib.hid (show le rH12 = fAdd (le a) (le a) by rw [← hrH12]; exact le_b32 _ (lt4 (fAdd_lt _ _ )))
        clear hrH12
        go_enter Try.func7, Try.ntmps7
        go_upto_region 1 with fail
        generalize hW1 : World.alloc _ _ = W1
        obtain ⟨N, hN⟩ : ∃ n, w.heap.size = n := ⟨_, rfl⟩
        have HX0 := Lib.hid (show BT W1 N 23 a by subst hW1; rw [← hN]; exact Go.heap_alloc_new _ _)
        have HB := Lib.hid (show Below N w W1 by subst hW1; rw [← hN]; exact (Below.refl _ w).alloc (Nat.le_refl _) _)
        have HN := Lib.hid hN
        rw [hN]
        clear hW1 hN
        go_wp2_with fail
        refine (awake_any _).mono ?_
        rintro e wa ⟨rfl, hba⟩
        have HX0' := Lib.hid (HX0.out.ext hba)
        have HB' := Lib.hid (HB.out.trans (hba.mono (show N ≤ _ by have := HX0.out.lt; omega)))
        clear hba HB HX0
        have HB := HB'
        have HX0 := HX0'
        clear HB' HX0'
        go_upto_region 3 with fail
        refine wp_region_seq 1 ?_
        simp only [List.take_succ_cons, List.take_zero, List.drop_succ_cons, List.drop_zero]
        refine upW_val (by rfl) (by rfl) (by rfl) (fun K hK => quiet_load_row _ _ rfl N rfl 23 _ (0, 0) _ HX0.out Try.underlying23 rfl (sB a HLA0.out) (hK _ ?_))
        simp only [Act.put, List.setIfInBounds_toArray, List.set]
        refine upW_nil (fun ws0 hbs0 => ?_)
        go_wp2_with (refine wpList_store_row rfl 24 _ _ rfl ws0.heap.size ((byteVals a).toArray) rfl rfl 24 _ (Go.heap_alloc_new _ _) (sN a HLA0.out) ?hold (byteVals_one _) (Stop.out ?_))
        case hold => rw [size_byteVals, size_byteVals, zerB_len, HLA0.out]
        generalize hWS : World.setRow _ _ _ = W0
        obtain ⟨M0, hM⟩ : ∃ n, ws0.heap.size = n := ⟨_, rfl⟩
        have HM0 := Lib.hid (show BT W0 M0 24 a by subst hWS; rw [← hM]; exact setRow_heap _ _ _ _ _ _ (Go.heap_alloc_new _ _))
        have HB' := Lib.hid (show Below N w W0 by subst hWS; exact Below.setRow ((HB.out.trans (hbs0.mono (show N ≤ _ by have := HB.out.size; have := HN.out; omega))).alloc (by have := hbs0.size; have := HB.out.size; have := HN.out; omega) _) (by have := hbs0.size; have := HB.out.size; have := HN.out; omega) _)
        rw [hM]
        clear hWS hM hbs0 HB 
        have HB := HB'
        clear HB' 
        refine ⟨?_⟩
        go_upto_region 4 with fail
        refine wp_region_seq 7 ?_
        simp only [List.take_succ_cons, List.take_zero, List.drop_succ_cons, List.drop_zero]
        refine upW_val (by rfl) (by rfl) (by rfl) (fun K hK => quiet_load_row _ _ rfl M0 rfl 24 _ (0, 0) _ HM0.out Try.underlying24 rfl (sN a HLA0.out) (hK _ ?_))
        simp only [Act.put, List.setIfInBounds_toArray, List.set]
        refine upW_val (by rfl) (by rfl) (by rfl) (fun K hK => quiet_load_row _ _ rfl M0 rfl 24 _ (0, 0) _ HM0.out Try.underlying24 rfl (sN a HLA0.out) (hK _ ?_))
        simp only [Act.put, List.setIfInBounds_toArray, List.set]
        refine upW_call (by rfl) (by rfl) (.agg (byteVals rH1).toArray) _ rfl (by simp) (fun p => ?_) ?_
        · go_big_quiet_op
          exact ⟨_, fun q => Calls.ext_of (HQH1.out q.x), rfl⟩
        simp only [Act.put, List.setIfInBounds_toArray, List.set]
        refine upW_call (by rfl) (by rfl) (.tuple #[.agg (byteVals rH2).toArray, .bool true]) _ rfl (by simp) (fun p => ?_) ?_
        · go_big_quiet_op
          exact ⟨_, fun q => Calls.ext_of (HQH2.out q.x), rfl⟩
        simp only [Act.put, List.setIfInBounds_toArray, List.set]
        refine upW_val (by rfl) (by rfl) (by rfl) ?_
        intro K hK
        go_big_quiet_op
        refine hK _ ?_
        refine upW_late (by rfl) (.agg (byteVals rH2).toArray) (fun _ => rfl) ?_
        simp only [Act.put, List.setIfInBounds_toArray, List.set]
        refine upW_late (by rfl) (.bool true) (fun _ => rfl) ?_
        simp only [Act.put, List.setIfInBounds_toArray, List.set]
        refine upW_nil (fun ws1 hbs1 => ?_)
        go_wp2_with (refine wpList_store_row rfl 24 _ _ rfl ws1.heap.size ((byteVals rH2).toArray) rfl rfl 24 _ (Go.heap_alloc_new _ _) (sN rH2 HLH2.out) ?hold (byteVals_one _) (Stop.out ?_))
        case hold => rw [size_byteVals, size_byteVals, zerB_len, HLH2.out]
        generalize hWS : World.setRow _ _ _ = W1
        obtain ⟨M1, hM⟩ : ∃ n, ws1.heap.size = n := ⟨_, rfl⟩
        have HM1 := Lib.hid (show BT W1 M1 24 rH2 by subst hWS; rw [← hM]; exact setRow_heap _ _ _ _ _ _ (Go.heap_alloc_new _ _))
        have HM0' := Lib.hid (show BT W1 M0 24 a by subst hWS; exact (HM0.out.ext hbs1).other ((setRow_other _ _ _ _ (by rw [hM]; have := (HM0.out.ext hbs1).lt; omega)).trans (Go.heap_alloc_old _ _ (HM0.out.ext hbs1).lt)))
        have HB' := Lib.hid (show Below N w W1 by subst hWS; exact Below.setRow ((HB.out.trans (hbs1.mono (show N ≤ _ by have := HB.out.size; have := HN.out; omega))).alloc (by have := hbs1.size; have := HB.out.size; have := HN.out; omega) _) (by have := hbs1.size; have := HB.out.size; have := HN.out; omega) _)
        rw [hM]
        clear hWS hM hbs1 HB HM0
        have HB := HB'
        have HM0 := HM0'
        clear HB' HM0'
        refine ⟨?_⟩
        go_upto_region 5 with fail
        refine wp_region_seq 5 ?_
        simp only [List.take_succ_cons, List.take_zero, List.drop_succ_cons, List.drop_zero]
        refine upW_val (by rfl) (by rfl) (by rfl) (fun K hK => quiet_load_row _ _ rfl M0 rfl 24 _ (0, 0) _ HM0.out Try.underlying24 rfl (sN a HLA0.out) (hK _ ?_))
        simp only [Act.put, List.setIfInBounds_toArray, List.set]
        refine upW_call (by rfl) (by rfl) (.tuple #[.agg (byteVals rH3).toArray, .bool false]) _ rfl (by simp) (fun p => ?_) ?_
        · go_big_quiet_op
          exact ⟨_, fun q => Calls.ext_of (HQH3.out q.x), rfl⟩
        simp only [Act.put, List.setIfInBounds_toArray, List.set]
        refine upW_val (by rfl) (by rfl) (by rfl) ?_
        intro K hK
        go_big_quiet_op
        refine hK _ ?_
        refine upW_late (by rfl) (.agg (byteVals rH3).toArray) (fun _ => rfl) ?_
        simp only [Act.put, List.setIfInBounds_toArray, List.set]
        refine upW_late (by rfl) (.bool false) (fun _ => rfl) ?_
        simp only [Act.put, List.setIfInBounds_toArray, List.set]
        refine upW_nil (fun ws2 hbs2 => ?_)
        go_wp2_with (refine wpList_store_row rfl 24 _ _ rfl ws2.heap.size ((byteVals rH3).toArray) rfl rfl 24 _ (Go.heap_alloc_new _ _) (sN rH3 HLH3.out) ?hold (byteVals_one _) (Stop.out ?_))
        case hold => rw [size_byteVals, size_byteVals, zerB_len, HLH3.out]
        generalize hWS : World.setRow _ _ _ = W2
        obtain ⟨M2, hM⟩ : ∃ n, ws2.heap.size = n := ⟨_, rfl⟩
        have HM2 := Lib.hid (show BT W2 M2 24 rH3 by subst hWS; rw [← hM]; exact setRow_heap _ _ _ _ _ _ (Go.heap_alloc_new _ _))
        have HM0' := Lib.hid (show BT W2 M0 24 a by subst hWS; exact (HM0.out.ext hbs2).other ((setRow_other _ _ _ _ (by rw [hM]; have := (HM0.out.ext hbs2).lt; omega)).trans (Go.heap_alloc_old _ _ (HM0.out.ext hbs2).lt)))
        have HM1' := Lib.hid (show BT W2 M1 24 rH2 by subst hWS; exact (HM1.out.ext hbs2).other ((setRow_other _ _ _ _ (by rw [hM]; have := (HM1.out.ext hbs2).lt; omega)).trans (Go.heap_alloc_old _ _ (HM1.out.ext hbs2).lt)))
        have HB' := Lib.hid (show Below N w W2 by subst hWS; exact Below.setRow ((HB.out.trans (hbs2.mono (show N ≤ _ by have := HB.out.size; have := HN.out; omega))).alloc (by have := hbs2.size; have := HB.out.size; have := HN.out; omega) _) (by have := hbs2.size; have := HB.out.size; have := HN.out; omega) _)
        rw [hM]
        clear hWS hM hbs2 HB HM0 HM1
        have HB := HB'
        have HM0 := HM0'
        have HM1 := HM1'
        clear HB' HM0' HM1'
        refine ⟨?_⟩
        go_upto_region 6 with fail
        refine wp_region_seq 7 ?_
        simp only [List.take_succ_cons, List.take_zero, List.drop_succ_cons, List.drop_zero]
        refine upW_val (by rfl) (by rfl) (by rfl) (fun K hK => quiet_load_row _ _ rfl M0 rfl 24 _ (0, 0) _ HM0.out Try.underlying24 rfl (sN a HLA0.out) (hK _ ?_))
        simp only [Act.put, List.setIfInBounds_toArray, List.set]
        refine upW_val (by rfl) (by rfl) (by rfl) (fun K hK => quiet_load_row _ _ rfl M0 rfl 24 _ (0, 0) _ HM0.out Try.underlying24 rfl (sN a HLA0.out) (hK _ ?_))
        simp only [Act.put, List.setIfInBounds_toArray, List.set]
        refine upW_call (by rfl) (by rfl) (.agg (byteVals rH4).toArray) _ rfl (by simp) (fun p => ?_) ?_
        · go_big_quiet_op
          exact ⟨_, fun q => Calls.ext_of (HQH4.out q.x), rfl⟩
        simp only [Act.put, List.setIfInBounds_toArray, List.set]
        refine upW_call (by rfl) (by rfl) (.tuple #[.agg (byteVals rH5).toArray, .bool true]) _ rfl (by simp) (fun p => ?_) ?_
        · go_big_quiet_op
          exact ⟨_, fun q => Calls.ext_of (HQH5.out q.x), rfl⟩
        simp only [Act.put, List.setIfInBounds_toArray, List.set]
        refine upW_val (by rfl) (by rfl) (by rfl) ?_
        intro K hK
        go_big_quiet_op
        refine hK _ ?_
        refine upW_late (by rfl) (.agg (byteVals rH5).toArray) (fun _ => rfl) ?_
        simp only [Act.put, List.setIfInBounds_toArray, List.set]
        refine upW_late (by rfl) (.bool true) (fun _ => rfl) ?_
        simp only [Act.put, List.setIfInBounds_toArray, List.set]
        refine upW_nil (fun ws3 hbs3 => ?_)
        go_wp2_with (refine wpList_store_row rfl 24 _ _ rfl ws3.heap.size ((byteVals rH5).toArray) rfl rfl 24 _ (Go.heap_alloc_new _ _) (sN rH5 HLH5.out) ?hold (byteVals_one _) (Stop.out ?_))
        case hold => rw [size_byteVals, size_byteVals, zerB_len, HLH5.out]
        generalize hWS : World.setRow _ _ _ = W3
        obtain ⟨M3, hM⟩ : ∃ n, ws3.heap.size = n := ⟨_, rfl⟩
        have HM3 := Lib.hid (show BT W3 M3 24 rH5 by subst hWS; rw [← hM]; exact setRow_heap _ _ _ _ _ _ (Go.heap_alloc_new _ _))
        have HM0' := Lib.hid (show BT W3 M0 24 a by subst hWS; exact (HM0.out.ext hbs3).other ((setRow_other _ _ _ _ (by rw [hM]; have := (HM0.out.ext hbs3).lt; omega)).trans (Go.heap_alloc_old _ _ (HM0.out.ext hbs3).lt)))
        have HM1' := Lib.hid (show BT W3 M1 24 rH2 by subst hWS; exact (HM1.out.ext hbs3).other ((setRow_other _ _ _ _ (by rw [hM]; have := (HM1.out.ext hbs3).lt; omega)).trans (Go.heap_alloc_old _ _ (HM1.out.ext hbs3).lt)))
        have HM2' := Lib.hid (show BT W3 M2 24 rH3 by subst hWS; exact (HM2.out.ext hbs3).other ((setRow_other _ _ _ _ (by rw [hM]; have := (HM2.out.ext hbs3).lt; omega)).trans (Go.heap_alloc_old _ _ (HM2.out.ext hbs3).lt)))
        have HB' := Lib.hid (show Below N w W3 by subst hWS; exact Below.setRow ((HB.out.trans (hbs3.mono (show N ≤ _ by have := HB.out.size; have := HN.out; omega))).alloc (by have := hbs3.size; have := HB.out.size; have := HN.out; omega) _) (by have := hbs3.size; have := HB.out.size; have := HN.out; omega) _)
        rw [hM]
        clear hWS hM hbs3 HB HM0 HM1 HM2
        have HB := HB'
        have HM0 := HM0'
        have HM1 := HM1'
        have HM2 := HM2'
        clear HB' HM0' HM1' HM2'
        refine ⟨?_⟩
        go_wp2_with fail
        refine wp_region_whole (List.range 28) [] [] (by kernel_rfl) (by kernel_rfl) (List.forall_mem_nil _) rfl ?_
        simp only [List.foldl]
        refine upW_val (by rfl) (by rfl) (by rfl) ?_
        intro K hK
        go_big_quiet_op
        refine hK _ ?_
        refine upW_val (by rfl) (by rfl) (by rfl) ?_
        intro K hK
        go_big_quiet_op
        refine hK _ ?_
        refine upW_val (by rfl) (by rfl) (by rfl) ?_
        intro K hK
        go_big_quiet_op
        refine hK _ ?_
        refine upW_val (by rfl) (by rfl) (by rfl) (fun K hK => quiet_load_row _ _ rfl M1 rfl 24 _ (0, 0) _ HM1.out Try.underlying24 rfl (sN rH2 HLH2.out) (hK _ ?_))
        simp only [Act.put, List.setIfInBounds_toArray, List.set]
        refine upW_call (by rfl) (by rfl) (.bool false) _ rfl (by simp) (fun p => ?_) ?_
        · go_big_quiet_op
          exact ⟨_, fun q => Calls.ext_of (HQH6.out q.x), rfl⟩
        simp only [Act.put, List.setIfInBounds_toArray, List.set]
        refine upW_val (by rfl) (by rfl) (by rfl) ?_
        intro K hK
        go_big_quiet_op
        refine hK _ ?_
        refine upW_val (by rfl) (by rfl) (by rfl) ?_
        intro K hK
        go_big_quiet_op
        refine hK _ ?_
        refine upW_val (by rfl) (by rfl) (by rfl) (fun K hK => quiet_load_row _ _ rfl M1 rfl 24 _ (0, 0) _ HM1.out Try.underlying24 rfl (sN rH2 HLH2.out) (hK _ ?_))
        simp only [Act.put, List.setIfInBounds_toArray, List.set]
        refine upW_val (by rfl) (by rfl) (by rfl) (fun K hK => quiet_load_row _ _ rfl M1 rfl 24 _ (0, 0) _ HM1.out Try.underlying24 rfl (sN rH2 HLH2.out) (hK _ ?_))
        simp only [Act.put, List.setIfInBounds_toArray, List.set]
        refine upW_call (by rfl) (by rfl) (.agg (byteVals rH7).toArray) _ rfl (by simp) (fun p => ?_) ?_
        · go_big_quiet_op
          exact ⟨_, fun q => Calls.ext_of (HQH7.out q.x), rfl⟩
        simp only [Act.put, List.setIfInBounds_toArray, List.set]
        refine upW_val (by rfl) (by rfl) (by rfl) (fun K hK => quiet_load_row _ _ rfl M0 rfl 24 _ (0, 0) _ HM0.out Try.underlying24 rfl (sN a HLA0.out) (hK _ ?_))
        simp only [Act.put, List.setIfInBounds_toArray, List.set]
        refine upW_val (by rfl) (by rfl) (by rfl) (fun K hK => quiet_load_row _ _ rfl M0 rfl 24 _ (0, 0) _ HM0.out Try.underlying24 rfl (sN a HLA0.out) (hK _ ?_))
        simp only [Act.put, List.setIfInBounds_toArray, List.set]
        refine upW_call (by rfl) (by rfl) (.agg (byteVals rH8).toArray) _ rfl (by simp) (fun p => ?_) ?_
        · go_big_quiet_op
          exact ⟨_, fun q => Calls.ext_of (HQH8.out q.x), rfl⟩
        simp only [Act.put, List.setIfInBounds_toArray, List.set]
        refine upW_late (by rfl) (.bool false) (fun w => run_neB _ _ _ _ 24 rfl Try.underlying24 rH7 rH8 rfl rfl HLH7.out HLH8.out (by kernel_rfl) false (by rw [show decide (rH7 = rH8) = true from (decide_eq_true (eq_le HLH7.out HLH8.out (by simp only [HVH1.out, HVH2.out, HVH7.out, HVH8.out]; exact (by rw [fMul_root _ (fRoot_of_sq _ (le_32 a HLA0.out)), fMul_mod]))))]; rfl) w) ?_
        simp only [Act.put, List.setIfInBounds_toArray, List.set]
        refine upW_val (by rfl) (by rfl) (by rfl) ?_
        intro K hK
        go_big_quiet_op
        refine hK _ ?_
        refine upW_val (by rfl) (by rfl) (by rfl) ?_
        intro K hK
        go_big_quiet_op
        refine hK _ ?_
        refine upW_val (by rfl) (by rfl) (by rfl) (fun K hK => quiet_load_row _ _ rfl M1 rfl 24 _ (0, 0) _ HM1.out Try.underlying24 rfl (sN rH2 HLH2.out) (hK _ ?_))
        simp only [Act.put, List.setIfInBounds_toArray, List.set]
        refine upW_val (by rfl) (by rfl) (by rfl) (fun K hK => quiet_load_row _ _ rfl M0 rfl 24 _ (0, 0) _ HM0.out Try.underlying24 rfl (sN a HLA0.out) (hK _ ?_))
        simp only [Act.put, List.setIfInBounds_toArray, List.set]
        refine upW_call (by rfl) (by rfl) (.agg (byteVals rH9).toArray) _ rfl (by simp) (fun p => ?_) ?_
        · go_big_quiet_op
          exact ⟨_, fun q => Calls.ext_of (HQH9.out q.x), rfl⟩
        simp only [Act.put, List.setIfInBounds_toArray, List.set]
        refine upW_late (by rfl) (.bool false) (fun w => run_neB _ _ _ _ 24 rfl Try.underlying24 rH2 rH9 rfl rfl HLH2.out HLH9.out (by kernel_rfl) false (by rw [show decide (rH2 = rH9) = true from (decide_eq_true (eq_le HLH2.out HLH9.out (by simp only [HVH1.out, HVH2.out, HVH9.out]; exact HSM.out)))]; rfl) w) ?_
        simp only [Act.put, List.setIfInBounds_toArray, List.set]
        refine upW_val (by rfl) (by rfl) (by rfl) ?_
        intro K hK
        go_big_quiet_op
        refine hK _ ?_
        refine upW_skip (by rfl) ?_
        simp only [Act.put, List.setIfInBounds_toArray, List.set]
        refine upW_skip (by rfl) ?_
        simp only [Act.put, List.setIfInBounds_toArray, List.set]
        refine upW_skip (by rfl) ?_
        simp only [Act.put, List.setIfInBounds_toArray, List.set]
        refine upW_skip (by rfl) ?_
        simp only [Act.put, List.setIfInBounds_toArray, List.set]
        refine upW_skip (by rfl) ?_
        simp only [Act.put, List.setIfInBounds_toArray, List.set]
        refine upW_val (by rfl) (by rfl) (by rfl) ?_
        intro K hK
        go_big_quiet_op
        refine hK _ ?_
        refine upW_val (by rfl) (by rfl) (by rfl) ?_
        intro K hK
        go_big_quiet_op
        refine hK _ ?_
        refine upW_nil ⟨List.forall_mem_nil _, fun _ w7 _ _ hbs => ?_⟩
        simp only [List.foldr]
        have HM0' := Lib.hid (HM0.out.ext hbs)
        have HM1' := Lib.hid (HM1.out.ext hbs)
        have HM2' := Lib.hid (HM2.out.ext hbs)
        have HM3' := Lib.hid (HM3.out.ext hbs)
        have HB' := Lib.hid (HB.out.trans (hbs.mono (show N ≤ _ by have := HB.out.size; have := HN.out; omega)))
        clear hbs HB HM0 HM1 HM2 HM3
        have HB := HB'
        have HM0 := HM0'
        have HM1 := HM1'
        have HM2 := HM2'
        have HM3 := HM3'
        clear HB' HM0' HM1' HM2' HM3'
        go_upto_region 9 with fail
        refine wp_region_seq 4 ?_
        simp only [List.take_succ_cons, List.take_zero, List.drop_succ_cons, List.drop_zero]
        refine upW_val (by rfl) (by rfl) (by rfl) (fun K hK => quiet_load_row _ _ rfl M0 rfl 24 _ (0, 0) _ HM0.out Try.underlying24 rfl (sN a HLA0.out) (hK _ ?_))
        simp only [Act.put, List.setIfInBounds_toArray, List.set]
        refine upW_call (by rfl) (by rfl) (.agg (byteVals rH10).toArray) _ rfl (by simp) (fun p => ?_) ?_
        · go_big_quiet_op
          exact ⟨_, fun q => Calls.ext_of (HQH10.out q.x), rfl⟩
        simp only [Act.put, List.setIfInBounds_toArray, List.set]
        refine upW_late (by rfl) (.agg (byteVals (zerB 32)).toArray) (fun w => run_zeroN _ _ rfl w) ?_
        simp only [Act.put, List.setIfInBounds_toArray, List.set]
        refine upW_late (by rfl) (.bool false) (fun w => run_eqB _ _ _ _ 24 rfl Try.underlying24 rH10 (zerB 32) rfl rfl HLH10.out (zerB_len 32) (by kernel_rfl) false (decide_eq_false (fun h => by have h := congrArg le h; simp only [HVH10.out, le_zer] at h; exact HZ.out h)) w) ?_
        simp only [Act.put, List.setIfInBounds_toArray, List.set]
        refine upW_nil (fun w9 hbs => ?_)
        have HM0' := Lib.hid (HM0.out.ext hbs)
        have HM1' := Lib.hid (HM1.out.ext hbs)
        have HM2' := Lib.hid (HM2.out.ext hbs)
        have HM3' := Lib.hid (HM3.out.ext hbs)
        have HB' := Lib.hid (HB.out.trans (hbs.mono (show N ≤ _ by have := HB.out.size; have := HN.out; omega)))
        clear hbs HB HM0 HM1 HM2 HM3
        have HB := HB'
        have HM0 := HM0'
        have HM1 := HM1'
        have HM2 := HM2'
        have HM3 := HM3'
        clear HB' HM0' HM1' HM2' HM3'
        go_wp2_with fail
        refine wp_region_up 41 41 (by kernel_rfl) (by kernel_rfl) (fun _ _ dst _ _ h => by cases dst <;> exact h) ?_
        simp only [List.take_succ_cons, List.take_zero, List.drop_succ_cons, List.drop_zero]
        refine upW_val (by rfl) (by rfl) (by rfl) ?_
        intro K hK
        go_big_quiet_op
        refine hK _ ?_
        refine upW_val (by rfl) (by rfl) (by rfl) ?_
        intro K hK
        go_big_quiet_op
        refine hK _ ?_
        refine upW_val (by rfl) (by rfl) (by rfl) ?_
        intro K hK
        go_big_quiet_op
        refine hK _ ?_
        refine upW_val (by rfl) (by rfl) (by rfl) ?_
        intro K hK
        go_big_quiet_op
        refine hK _ ?_
        refine upW_val (by rfl) (by rfl) (by rfl) ?_
        intro K hK
        go_big_quiet_op
        refine hK _ ?_
        refine upW_val (by rfl) (by rfl) (by rfl) ?_
        intro K hK
        go_big_quiet_op
        refine hK _ ?_
        refine upW_val (by rfl) (by rfl) (by rfl) ?_
        intro K hK
        go_big_quiet_op
        refine hK _ ?_
        refine upW_skip (by rfl) ?_
        simp only [Act.put, List.setIfInBounds_toArray, List.set]
        refine upW_skip (by rfl) ?_
        simp only [Act.put, List.setIfInBounds_toArray, List.set]
        refine upW_skip (by rfl) ?_
        simp only [Act.put, List.setIfInBounds_toArray, List.set]
        refine upW_skip (by rfl) ?_
        simp only [Act.put, List.setIfInBounds_toArray, List.set]
        refine upW_skip (by rfl) ?_
        simp only [Act.put, List.setIfInBounds_toArray, List.set]
        refine upW_skip (by rfl) ?_
        simp only [Act.put, List.setIfInBounds_toArray, List.set]
        refine upW_skip (by rfl) ?_
        simp only [Act.put, List.setIfInBounds_toArray, List.set]
        refine upW_skip (by rfl) ?_
        simp only [Act.put, List.setIfInBounds_toArray, List.set]
        refine upW_skip (by rfl) ?_
        simp only [Act.put, List.setIfInBounds_toArray, List.set]
        refine upW_skip (by rfl) ?_
        simp only [Act.put, List.setIfInBounds_toArray, List.set]
        refine upW_skip (by rfl) ?_
        simp only [Act.put, List.setIfInBounds_toArray, List.set]
        refine upW_val (by rfl) (by rfl) (by rfl) ?_
        intro K hK
        go_big_quiet_op
        refine hK _ ?_
        refine upW_val (by rfl) (by rfl) (by rfl) ?_
        intro K hK
        go_big_quiet_op
        refine hK _ ?_
        refine upW_val (by rfl) (by rfl) (by rfl) ?_
        intro K hK
        go_big_quiet_op
        refine hK _ ?_
        refine upW_val (by rfl) (by rfl) (by rfl) ?_
        intro K hK
        go_big_quiet_op
        refine hK _ ?_
        refine upW_val (by rfl) (by rfl) (by rfl) ?_
        intro K hK
        go_big_quiet_op
        refine hK _ ?_
        refine upW_val (by rfl) (by rfl) (by rfl) (fun K hK => quiet_load_row _ _ rfl M2 rfl 24 _ (0, 0) _ HM2.out Try.underlying24 rfl (sN rH3 HLH3.out) (hK _ ?_))
        simp only [Act.put, List.setIfInBounds_toArray, List.set]
        refine upW_late (by rfl) (.agg (byteVals (zerB 32)).toArray) (fun w => run_zeroN _ _ rfl w) ?_
        simp only [Act.put, List.setIfInBounds_toArray, List.set]
        refine upW_late (by rfl) (.bool true) (fun w => run_eqB _ _ _ _ 24 rfl Try.underlying24 rH3 (zerB 32) rfl rfl HLH3.out (zerB_len 32) (by kernel_rfl) true (decide_eq_true (eq_le HLH3.out (zerB_len 32) (by simp only [HVH3.out, le_zer]; exact (fRoot_none _ HIS.out)))) w) ?_
        simp only [Act.put, List.setIfInBounds_toArray, List.set]
        refine upW_val (by rfl) (by rfl) (by rfl) ?_
        intro K hK
        go_big_quiet_op
        refine hK _ ?_
        refine upW_val (by rfl) (by rfl) (by rfl) ?_
        intro K hK
        go_big_quiet_op
        refine hK _ ?_
        refine upW_val (by rfl) (by rfl) (by rfl) ?_
        intro K hK
        go_big_quiet_op
        refine hK _ ?_
        refine upW_val (by rfl) (by rfl) (by rfl) ?_
        intro K hK
        go_big_quiet_op
        refine hK _ ?_
        refine upW_val (by rfl) (by rfl) (by rfl) ?_
        intro K hK
        go_big_quiet_op
        refine hK _ ?_
        refine upW_val (by rfl) (by rfl) (by rfl) ?_
        intro K hK
        go_big_quiet_op
        refine hK _ ?_
        refine upW_val (by rfl) (by rfl) (by rfl) (fun K hK => quiet_load_row _ _ rfl M3 rfl 24 _ (0, 0) _ HM3.out Try.underlying24 rfl (sN rH5 HLH5.out) (hK _ ?_))
        simp only [Act.put, List.setIfInBounds_toArray, List.set]
        refine upW_val (by rfl) (by rfl) (by rfl) (fun K hK => quiet_load_row _ _ rfl M3 rfl 24 _ (0, 0) _ HM3.out Try.underlying24 rfl (sN rH5 HLH5.out) (hK _ ?_))
        simp only [Act.put, List.setIfInBounds_toArray, List.set]
        refine upW_call (by rfl) (by rfl) (.agg (byteVals rH11).toArray) _ rfl (by simp) (fun p => ?_) ?_
        · go_big_quiet_op
          exact ⟨_, fun q => Calls.ext_of (HQH11.out q.x), rfl⟩
        simp only [Act.put, List.setIfInBounds_toArray, List.set]
        refine upW_val (by rfl) (by rfl) (by rfl) (fun K hK => quiet_load_row _ _ rfl M0 rfl 24 _ (0, 0) _ HM0.out Try.underlying24 rfl (sN a HLA0.out) (hK _ ?_))
        simp only [Act.put, List.setIfInBounds_toArray, List.set]
        refine upW_val (by rfl) (by rfl) (by rfl) (fun K hK => quiet_load_row _ _ rfl M0 rfl 24 _ (0, 0) _ HM0.out Try.underlying24 rfl (sN a HLA0.out) (hK _ ?_))
        simp only [Act.put, List.setIfInBounds_toArray, List.set]
        refine upW_call (by rfl) (by rfl) (.agg (byteVals rH12).toArray) _ rfl (by simp) (fun p => ?_) ?_
        · go_big_quiet_op
          exact ⟨_, fun q => Calls.ext_of (HQH12.out q.x), rfl⟩
        simp only [Act.put, List.setIfInBounds_toArray, List.set]
        refine upW_late (by rfl) (.bool true) (fun w => run_eqB _ _ _ _ 24 rfl Try.underlying24 rH11 rH12 rfl rfl HLH11.out HLH12.out (by kernel_rfl) true (decide_eq_true (eq_le HLH11.out HLH12.out (by simp only [HVH4.out, HVH5.out, HVH11.out, HVH12.out]; exact (by rw [fMul_root _ (by rw [fRoot_two _ HZ.out, HIS.out]; rfl), fAdd_mod])))) w) ?_
        simp only [Act.put, List.setIfInBounds_toArray, List.set]
        refine upW_val (by rfl) (by rfl) (by rfl) ?_
        intro K hK
        go_big_quiet_op
        refine hK _ ?_
        refine upW_val (by rfl) (by rfl) (by rfl) ?_
        intro K hK
        go_big_quiet_op
        refine hK _ ?_
        refine upW_nil (fun w10 hbs => ?_)
        have HF := Lib.hid (HB.out.trans (hbs.mono (show N ≤ _ by have := HB.out.size; have := HN.out; omega)))
        clear hbs
        go_wp2
        go_ret
        exact ⟨rfl, HN.out.symm ▸ HF.out⟩
    · have HSM := Lib.hid hsm
      clear hsm
      cases his : (fRoot (le a)).2 with
      | true =>
        have HIS := Lib.hid his
        clear his
        obtain ⟨rH1, hrH1⟩ : ∃ r, b32 (fMul (le a) (le a)) = r := ⟨_, rfl⟩
        have HQH1 := Lib.hid (fun w => Mul_any a a w HLA0.out HLA0.out)
        rw [hrH1] at HQH1
        have HLH1 := Lib.hid (show rH1.length = 32 by rw [← hrH1]; exact b32_len _)
        have HVH1 := Lib.hid (show le rH1 = fMul (le a) (le a) by rw [← hrH1]; exact le_b32 _ (lt4 (fMul_lt _ _ )))
        clear hrH1
        obtain ⟨rH2, hrH2⟩ : ∃ r, b32 (fRoot (le rH1)).1 = r := ⟨_, rfl⟩
        have HQH2 := Lib.hid (fun w => Root_any rH1 w HLH1.out)
        rw [hrH2, show (fRoot (le rH1)).2 = true from (by simp only [HVH1.out]; exact fRoot_of_sq _ (le_32 a HLA0.out))] at HQH2
        have HLH2 := Lib.hid (show rH2.length = 32 by rw [← hrH2]; exact b32_len _)
        have HVH2 := Lib.hid (show le rH2 = (fRoot (le rH1)).1 by rw [← hrH2]; exact le_b32 _ (lt4 (fRoot_lt _)))
        clear hrH2
        obtain ⟨rH3, hrH3⟩ : ∃ r, b32 (fRoot (le a)).1 = r := ⟨_, rfl⟩
        have HQH3 := Lib.hid (fun w => Root_any a w HLA0.out)
        rw [hrH3, show (fRoot (le a)).2 = true from HIS.out] at HQH3
        have HLH3 := Lib.hid (show rH3.length = 32 by rw [← hrH3]; exact b32_len _)
        have HVH3 := Lib.hid (show le rH3 = (fRoot (le a)).1 by rw [← hrH3]; exact le_b32 _ (lt4 (fRoot_lt _)))
        clear hrH3
        obtain ⟨rH4, hrH4⟩ : ∃ r, b32 (fAdd (le a) (le a)) = r := ⟨_, rfl⟩
        have HQH4 := Lib.hid (fun w => Add_any a a w HLA0.out HLA0.out)
        rw [hrH4] at HQH4
        have HLH4 := Lib.hid (show rH4.length = 32 by rw [← hrH4]; exact b32_len _)
        have HVH4 := Lib.hid (show le rH4 = fAdd (le a) (le a) by rw [← hrH4]; exact le_b32 _ (lt4 (fAdd_lt _ _ )))
        clear hrH4
        obtain ⟨rH5, hrH5⟩ : ∃ r, b32 (fRoot (le rH4)).1 = r := ⟨_, rfl⟩
        have HQH5 := Lib.hid (fun w => Root_any rH4 w HLH4.out)
        rw [hrH5, show (fRoot (le rH4)).2 = false from (by simp only [HVH4.out]; exact (by rw [fRoot_two _ HZ.out, HIS.out]; rfl))] at HQH5
        have HLH5 := Lib.hid (show rH5.length = 32 by rw [← hrH5]; exact b32_len _)
        have HVH5 := Lib.hid (show le rH5 = (fRoot (le rH4)).1 by rw [← hrH5]; exact le_b32 _ (lt4 (fRoot_lt _)))
        clear hrH5
        have HQH6 := Lib.hid (fun w => Odd_any rH2 w HLH2.out)
        rw [show decide (le rH2 % 57896044618658097711785492504343953926634992332820282019728792003956564819949 % 2 = 1) = false from (by rw [HVH2.out]; exact fRoot_odd _)] at HQH6
        obtain ⟨rH7, hrH7⟩ : ∃ r, b32 (fMul (le rH2) (le rH2)) = r := ⟨_, rfl⟩
        have HQH7 := Lib.hid (fun w => Mul_any rH2 rH2 w HLH2.out HLH2.out)
        rw [hrH7] at HQH7
        have HLH7 := Lib.hid (show rH7.length = 32 by rw [← hrH7]; exact b32_len _)
        have HVH7 := Lib.hid (show le rH7 = fMul (le rH2) (le rH2) by rw [← hrH7]; exact le_b32 _ (lt4 (fMul_lt _ _ )))
        clear hrH7
        obtain ⟨rH8, hrH8⟩ : ∃ r, b32 (fMul (le a) (le a)) = r := ⟨_, rfl⟩
        have HQH8 := Lib.hid (fun w => Mul_any a a w HLA0.out HLA0.out)
        rw [hrH8] at HQH8
        have HLH8 := Lib.hid (show rH8.length = 32 by rw [← hrH8]; exact b32_len _)
        have HVH8 := Lib.hid (show le rH8 = fMul (le a) (le a) by rw [← hrH8]; exact le_b32 _ (lt4 (fMul_lt _ _ )))
        clear hrH8
        obtain ⟨rH9, hrH9⟩ : ∃ r, b32 (le a % 57896044618658097711785492504343953926634992332820282019728792003956564819949) = r := ⟨_, rfl⟩
        have HQH9 := Lib.hid (fun w => Rest_any a w HLA0.out)
        rw [hrH9] at HQH9
        have HLH9 := Lib.hid (show rH9.length = 32 by rw [← hrH9]; exact b32_len _)
        have HVH9 := Lib.hid (show le rH9 = le a % 57896044618658097711785492504343953926634992332820282019728792003956564819949 by rw [← hrH9]; exact le_b32 _ (lt4 (Nat.mod_lt _ P_pos)))
        clear hrH9
        obtain ⟨rH10, hrH10⟩ : ∃ r, b32 (fAdd (le rH2) (le a)) = r := ⟨_, rfl⟩
        have HQH10 := Lib.hid (fun w => Add_any rH2 a w HLH2.out HLA0.out)
        rw [hrH10] at HQH10
        have HLH10 := Lib.hid (show rH10.length = 32 by rw [← hrH10]; exact b32_len _)
        have HVH10 := Lib.hid (show le rH10 = fAdd (le rH2) (le a) by rw [← hrH10]; exact le_b32 _ (lt4 (fAdd_lt _ _ )))
        clear hrH10
        obtain ⟨rH11, hrH11⟩ : ∃ r, b32 (le a % 57896044618658097711785492504343953926634992332820282019728792003956564819949) = r := ⟨_, rfl⟩
        have HQH11 := Lib.hid (fun w => Rest_any a w HLA0.out)
        rw [hrH11] at HQH11
        have HLH11 := Lib.hid (show rH11.length = 32 by rw [← hrH11]; exact b32_len _)
        have HVH11 := Lib.hid (show le rH11 = le a % 57896044618658097711785492504343953926634992332820282019728792003956564819949 by rw [← hrH11]; exact le_b32 _ (lt4 (Nat.mod_lt _ P_pos)))
        clear hrH11
        obtain ⟨rH12, hrH12⟩ : ∃ r, b32 (fMul (le rH3) (le rH3)) = r := ⟨_, rfl⟩
        have HQH12 := Lib.hid (fun w => Mul_any rH3 rH3 w HLH3.out HLH3.out)
        rw [hrH12] at HQH12
        have HLH12 := Lib.hid (show rH12.length = 32 by rw [← hrH12]; exact b32_len _)
        have HVH12 := Lib.hid (show le rH12 = fMul (le rH3) (le rH3) by rw [← hrH12]; exact le_b32 _ (lt4 (fMul_lt _ _ )))
        clear hrH12
        obtain ⟨rH13, hrH13⟩ : ∃ r, b32 (le a % 57896044618658097711785492504343953926634992332820282019728792003956564819949) = r := ⟨_, rfl⟩
        have HQH13 := Lib.hid (fun w => Rest_any a w HLA0.out)
        rw [hrH13] at HQH13
        have HLH13 := Lib.hid (show rH13.length = 32 by rw [← hrH13]; exact b32_len _)
        have HVH13 := Lib.hid (show le rH13 = le a % 57896044618658097711785492504343953926634992332820282019728792003956564819949 by rw [← hrH13]; exact le_b32 _ (lt4 (Nat.mod_lt _ P_pos)))
        clear hrH13
        have HQH14 := Lib.hid (fun w => Odd_any rH3 w HLH3.out)
        rw [show decide (le rH3 % 57896044618658097711785492504343953926634992332820282019728792003956564819949 % 2 = 1) = false from (by rw [HVH3.out]; exact fRoot_odd _)] at HQH14
        go_enter Try.func7, Try.ntmps7
        go_upto_region 1 with fail
        generalize hW1 : World.alloc _ _ = W1
        obtain ⟨N, hN⟩ : ∃ n, w.heap.size = n := ⟨_, rfl⟩
        have HX0 := Lib.hid (show BT W1 N 23 a by subst hW1; rw [← hN]; exact Go.heap_alloc_new _ _)
        have HB := Lib.hid (show Below N w W1 by subst hW1; rw [← hN]; exact (Below.refl _ w).alloc (Nat.le_refl _) _)
        have HN := Lib.hid hN
        rw [hN]
        clear hW1 hN
        go_wp2_with fail
        refine (awake_any _).mono ?_
        rintro e wa ⟨rfl, hba⟩
        have HX0' := Lib.hid (HX0.out.ext hba)
        have HB' := Lib.hid (HB.out.trans (hba.mono (show N ≤ _ by have := HX0.out.lt; omega)))
        clear hba HB HX0
        have HB := HB'
        have HX0 := HX0'
        clear HB' HX0'
        go_upto_region 3 with fail
        refine wp_region_seq 1 ?_
        simp only [List.take_succ_cons, List.take_zero, List.drop_succ_cons, List.drop_zero]
        refine upW_val (by rfl) (by rfl) (by rfl) (fun K hK => quiet_load_row _ _ rfl N rfl 23 _ (0, 0) _ HX0.out Try.underlying23 rfl (sB a HLA0.out) (hK _ ?_))
        simp only [Act.put, List.setIfInBounds_toArray, List.set]
        refine upW_nil (fun ws0 hbs0 => ?_)
        go_wp2_with (refine wpList_store_row rfl 24 _ _ rfl ws0.heap.size ((byteVals a).toArray) rfl rfl 24 _ (Go.heap_alloc_new _ _) (sN a HLA0.out) ?hold (byteVals_one _) (Stop.out ?_))
        case hold => rw [size_byteVals, size_byteVals, zerB_len, HLA0.out]
        generalize hWS : World.setRow _ _ _ = W0
        obtain ⟨M0, hM⟩ : ∃ n, ws0.heap.size = n := ⟨_, rfl⟩
        have HM0 := Lib.hid (show BT W0 M0 24 a by subst hWS; rw [← hM]; exact setRow_heap _ _ _ _ _ _ (Go.heap_alloc_new _ _))
        have HB' := Lib.hid (show Below N w W0 by subst hWS; exact Below.setRow ((HB.out.trans (hbs0.mono (show N ≤ _ by have := HB.out.size; have := HN.out; omega))).alloc (by have := hbs0.size; have := HB.out.size; have := HN.out; omega) _) (by have := hbs0.size; have := HB.out.size; have := HN.out; omega) _)
        rw [hM]
        clear hWS hM hbs0 HB 
        have HB := HB'
        clear HB' 
        refine ⟨?_⟩
        go_upto_region 4 with fail
        refine wp_region_seq 7 ?_
        simp only [List.take_succ_cons, List.take_zero, List.drop_succ_cons, List.drop_zero]
        refine upW_val (by rfl) (by rfl) (by rfl) (fun K hK => quiet_load_row _ _ rfl M0 rfl 24 _ (0, 0) _ HM0.out Try.underlying24 rfl (sN a HLA0.out) (hK _ ?_))
        simp only [Act.put, List.setIfInBounds_toArray, List.set]
        refine upW_val (by rfl) (by rfl) (by rfl) (fun K hK => quiet_load_row _ _ rfl M0 rfl 24 _ (0, 0) _ HM0.out Try.underlying24 rfl (sN a HLA0.out) (hK _ ?_))
        simp only [Act.put, List.setIfInBounds_toArray, List.set]
        refine upW_call (by rfl) (by rfl) (.agg (byteVals rH1).toArray) _ rfl (by simp) (fun p => ?_) ?_
        · go_big_quiet_op
          exact ⟨_, fun q => Calls.ext_of (HQH1.out q.x), rfl⟩
        simp only [Act.put, List.setIfInBounds_toArray, List.set]
        refine upW_call (by rfl) (by rfl) (.tuple #[.agg (byteVals rH2).toArray, .bool true]) _ rfl (by simp) (fun p => ?_) ?_
        · go_big_quiet_op
          exact ⟨_, fun q => Calls.ext_of (HQH2.out q.x), rfl⟩
        simp only [Act.put, List.setIfInBounds_toArray, List.set]
        refine upW_val (by rfl) (by rfl) (by rfl) ?_
        intro K hK
        go_big_quiet_op
        refine hK _ ?_
        refine upW_late (by rfl) (.agg (byteVals rH2).toArray) (fun _ => rfl) ?_
        simp only [Act.put, List.setIfInBounds_toArray, List.set]
        refine upW_late (by rfl) (.bool true) (fun _ => rfl) ?_
        simp only [Act.put, List.setIfInBounds_toArray, List.set]
        refine upW_nil (fun ws1 hbs1 => ?_)
        go_wp2_with (refine wpList_store_row rfl 24 _ _ rfl ws1.heap.size ((byteVals rH2).toArray) rfl rfl 24 _ (Go.heap_alloc_new _ _) (sN rH2 HLH2.out) ?hold (byteVals_one _) (Stop.out ?_))
        case hold => rw [size_byteVals, size_byteVals, zerB_len, HLH2.out]
        generalize hWS : World.setRow _ _ _ = W1
        obtain ⟨M1, hM⟩ : ∃ n, ws1.heap.size = n := ⟨_, rfl⟩
        have HM1 := Lib.hid (show BT W1 M1 24 rH2 by subst hWS; rw [← hM]; exact setRow_heap _ _ _ _ _ _ (Go.heap_alloc_new _ _))
        have HM0' := Lib.hid (show BT W1 M0 24 a by subst hWS; exact (HM0.out.ext hbs1).other ((setRow_other _ _ _ _ (by rw [hM]; have := (HM0.out.ext hbs1).lt; omega)).trans (Go.heap_alloc_old _ _ (HM0.out.ext hbs1).lt)))
        have HB' := Lib.hid (show Below N w W1 by subst hWS; exact Below.setRow ((HB.out.trans (hbs1.mono (show N ≤ _ by have := HB.out.size; have := HN.out; omega))).alloc (by have := hbs1.size; have := HB.out.size; have := HN.out; omega) _) (by have := hbs1.size; have := HB.out.size; have := HN.out; omega) _)
        rw [hM]
        clear hWS hM hbs1 HB HM0
        have HB := HB'
        have HM0 := HM0'
        clear HB' HM0'
        refine ⟨?_⟩
        go_upto_region 5 with fail
        refine wp_region_seq 5 ?_
        simp only [List.take_succ_cons, List.take_zero, List.drop_succ_cons, List.drop_zero]
        refine upW_val (by rfl) (by rfl) (by rfl) (fun K hK => quiet_load_row _ _ rfl M0 rfl 24 _ (0, 0) _ HM0.out Try.underlying24 rfl (sN a HLA0.out) (hK _ ?_))
        simp only [Act.put, List.setIfInBounds_toArray, List.set]
        refine upW_call (by rfl) (by rfl) (.tuple #[.agg (byteVals rH3).toArray, .bool true]) _ rfl (by simp) (fun p => ?_) ?_
        · go_big_quiet_op
          exact ⟨_, fun q => Calls.ext_of (HQH3.out q.x), rfl⟩
        simp only [Act.put, List.setIfInBounds_toArray, List.set]
        refine upW_val (by rfl) (by rfl) (by rfl) ?_
        intro K hK
        go_big_quiet_op
        refine hK _ ?_
        refine upW_late (by rfl) (.agg (byteVals rH3).toArray) (fun _ => rfl) ?_
        simp only [Act.put, List.setIfInBounds_toArray, List.set]
        refine upW_late (by rfl) (.bool true) (fun _ => rfl) ?_
        simp only [Act.put, List.setIfInBounds_toArray, List.set]
        refine upW_nil (fun ws2 hbs2 => ?_)
        go_wp2_with (refine wpList_store_row rfl 24 _ _ rfl ws2.heap.size ((byteVals rH3).toArray) rfl rfl 24 _ (Go.heap_alloc_new _ _) (sN rH3 HLH3.out) ?hold (byteVals_one _) (Stop.out ?_))
        case hold => rw [size_byteVals, size_byteVals, zerB_len, HLH3.out]
        generalize hWS : World.setRow _ _ _ = W2
        obtain ⟨M2, hM⟩ : ∃ n, ws2.heap.size = n := ⟨_, rfl⟩
        have HM2 := Lib.hid (show BT W2 M2 24 rH3 by subst hWS; rw [← hM]; exact setRow_heap _ _ _ _ _ _ (Go.heap_alloc_new _ _))
        have HM0' := Lib.hid (show BT W2 M0 24 a by subst hWS; exact (HM0.out.ext hbs2).other ((setRow_other _ _ _ _ (by rw [hM]; have := (HM0.out.ext hbs2).lt; omega)).trans (Go.heap_alloc_old _ _ (HM0.out.ext hbs2).lt)))
        have HM1' := Lib.hid (show BT W2 M1 24 rH2 by subst hWS; exact (HM1.out.ext hbs2).other ((setRow_other _ _ _ _ (by rw [hM]; have := (HM1.out.ext hbs2).lt; omega)).trans (Go.heap_alloc_old _ _ (HM1.out.ext hbs2).lt)))
        have HB' := Lib.hid (show Below N w W2 by subst hWS; exact Below.setRow ((HB.out.trans (hbs2.mono (show N ≤ _ by have := HB.out.size; have := HN.out; omega))).alloc (by have := hbs2.size; have := HB.out.size; have := HN.out; omega) _) (by have := hbs2.size; have := HB.out.size; have := HN.out; omega) _)
        rw [hM]
        clear hWS hM hbs2 HB HM0 HM1
        have HB := HB'
        have HM0 := HM0'
        have HM1 := HM1'
        clear HB' HM0' HM1'
        refine ⟨?_⟩
        go_upto_region 6 with fail
        refine wp_region_seq 7 ?_
        simp only [List.take_succ_cons, List.take_zero, List.drop_succ_cons, List.drop_zero]
        refine upW_val (by rfl) (by rfl) (by rfl) (fun K hK => quiet_load_row _ _ rfl M0 rfl 24 _ (0, 0) _ HM0.out Try.underlying24 rfl (sN a HLA0.out) (hK _ ?_))
        simp only [Act.put, List.setIfInBounds_toArray, List.set]
        refine upW_val (by rfl) (by rfl) (by rfl) (fun K hK => quiet_load_row _ _ rfl M0 rfl 24 _ (0, 0) _ HM0.out Try.underlying24 rfl (sN a HLA0.out) (hK _ ?_))
        simp only [Act.put, List.setIfInBounds_toArray, List.set]
        refine upW_call (by rfl) (by rfl) (.agg (byteVals rH4).toArray) _ rfl (by simp) (fun p => ?_) ?_
        · go_big_quiet_op
          exact ⟨_, fun q => Calls.ext_of (HQH4.out q.x), rfl⟩
        simp only [Act.put, List.setIfInBounds_toArray, List.set]
        refine upW_call (by rfl) (by rfl) (.tuple #[.agg (byteVals rH5).toArray, .bool false]) _ rfl (by simp) (fun p => ?_) ?_
        · go_big_quiet_op
          exact ⟨_, fun q => Calls.ext_of (HQH5.out q.x), rfl⟩
        simp only [Act.put, List.setIfInBounds_toArray, List.set]
        refine upW_val (by rfl) (by rfl) (by rfl) ?_
        intro K hK
        go_big_quiet_op
        refine hK _ ?_
        refine upW_late (by rfl) (.agg (byteVals rH5).toArray) (fun _ => rfl) ?_
        simp only [Act.put, List.setIfInBounds_toArray, List.set]
        refine upW_late (by rfl) (.bool false) (fun _ => rfl) ?_
        simp only [Act.put, List.setIfInBounds_toArray, List.set]
        refine upW_nil (fun ws3 hbs3 => ?_)
        go_wp2_with (refine wpList_store_row rfl 24 _ _ rfl ws3.heap.size ((byteVals rH5).toArray) rfl rfl 24 _ (Go.heap_alloc_new _ _) (sN rH5 HLH5.out) ?hold (byteVals_one _) (Stop.out ?_))
        case hold => rw [size_byteVals, size_byteVals, zerB_len, HLH5.out]
        generalize hWS : World.setRow _ _ _ = W3
        obtain ⟨M3, hM⟩ : ∃ n, ws3.heap.size = n := ⟨_, rfl⟩
        have HM3 := Lib.hid (show BT W3 M3 24 rH5 by subst hWS; rw [← hM]; exact setRow_heap _ _ _ _ _ _ (Go.heap_alloc_new _ _))
        have HM0' := Lib.hid (show BT W3 M0 24 a by subst hWS; exact (HM0.out.ext hbs3).other ((setRow_other _ _ _ _ (by rw [hM]; have := (HM0.out.ext hbs3).lt; omega)).trans (Go.heap_alloc_old _ _ (HM0.out.ext hbs3).lt)))
        have HM1' := Lib.hid (show BT W3 M1 24 rH2 by subst hWS; exact (HM1.out.ext hbs3).other ((setRow_other _ _ _ _ (by rw [hM]; have := (HM1.out.ext hbs3).lt; omega)).trans (Go.heap_alloc_old _ _ (HM1.out.ext hbs3).lt)))
        have HM2' := Lib.hid (show BT W3 M2 24 rH3 by subst hWS; exact (HM2.out.ext hbs3).other ((setRow_other _ _ _ _ (by rw [hM]; have := (HM2.out.ext hbs3).lt; omega)).trans (Go.heap_alloc_old _ _ (HM2.out.ext hbs3).lt)))
        have HB' := Lib.hid (show Below N w W3 by subst hWS; exact Below.setRow ((HB.out.trans (hbs3.mono (show N ≤ _ by have := HB.out.size; have := HN.out; omega))).alloc (by have := hbs3.size; have := HB.out.size; have := HN.out; omega) _) (by have := hbs3.size; have := HB.out.size; have := HN.out; omega) _)
        rw [hM]
        clear hWS hM hbs3 HB HM0 HM1 HM2
        have HB := HB'
        have HM0 := HM0'
        have HM1 := HM1'
        have HM2 := HM2'
        clear HB' HM0' HM1' HM2'
        refine ⟨?_⟩
        go_wp2_with fail
        refine wp_region_whole (List.range 28) [] [] (by kernel_rfl) (by kernel_rfl) (List.forall_mem_nil _) rfl ?_
        simp only [List.foldl]
        refine upW_val (by rfl) (by rfl) (by rfl) ?_
        intro K hK
        go_big_quiet_op
        refine hK _ ?_
        refine upW_val (by rfl) (by rfl) (by rfl) ?_
        intro K hK
        go_big_quiet_op
        refine hK _ ?_
        refine upW_val (by rfl) (by rfl) (by rfl) ?_
        intro K hK
        go_big_quiet_op
        refine hK _ ?_
        refine upW_val (by rfl) (by rfl) (by rfl) (fun K hK => quiet_load_row _ _ rfl M1 rfl 24 _ (0, 0) _ HM1.out Try.underlying24 rfl (sN rH2 HLH2.out) (hK _ ?_))
        simp only [Act.put, List.setIfInBounds_toArray, List.set]
        refine upW_call (by rfl) (by rfl) (.bool false) _ rfl (by simp) (fun p => ?_) ?_
        · go_big_quiet_op
          exact ⟨_, fun q => Calls.ext_of (HQH6.out q.x), rfl⟩
        simp only [Act.put, List.setIfInBounds_toArray, List.set]
        refine upW_val (by rfl) (by rfl) (by rfl) ?_
        intro K hK
        go_big_quiet_op
        refine hK _ ?_
        refine upW_val (by rfl) (by rfl) (by rfl) ?_
        intro K hK
        go_big_quiet_op
        refine hK _ ?_
        refine upW_val (by rfl) (by rfl) (by rfl) (fun K hK => quiet_load_row _ _ rfl M1 rfl 24 _ (0, 0) _ HM1.out Try.underlying24 rfl (sN rH2 HLH2.out) (hK _ ?_))
        simp only [Act.put, List.setIfInBounds_toArray, List.set]
        refine upW_val (by rfl) (by rfl) (by rfl) (fun K hK => quiet_load_row _ _ rfl M1 rfl 24 _ (0, 0) _ HM1.out Try.underlying24 rfl (sN rH2 HLH2.out) (hK _ ?_))
        simp only [Act.put, List.setIfInBounds_toArray, List.set]
        refine upW_call (by rfl) (by rfl) (.agg (byteVals rH7).toArray) _ rfl (by simp) (fun p => ?_) ?_
        · go_big_quiet_op
          exact ⟨_, fun q => Calls.ext_of (HQH7.out q.x), rfl⟩
        simp only [Act.put, List.setIfInBounds_toArray, List.set]
        refine upW_val (by rfl) (by rfl) (by rfl) (fun K hK => quiet_load_row _ _ rfl M0 rfl 24 _ (0, 0) _ HM0.out Try.underlying24 rfl (sN a HLA0.out) (hK _ ?_))
        simp only [Act.put, List.setIfInBounds_toArray, List.set]
        refine upW_val (by rfl) (by rfl) (by rfl) (fun K hK => quiet_load_row _ _ rfl M0 rfl 24 _ (0, 0) _ HM0.out Try.underlying24 rfl (sN a HLA0.out) (hK _ ?_))
        simp only [Act.put, List.setIfInBounds_toArray, List.set]
        refine upW_call (by rfl) (by rfl) (.agg (byteVals rH8).toArray) _ rfl (by simp) (fun p => ?_) ?_
        · go_big_quiet_op
          exact ⟨_, fun q => Calls.ext_of (HQH8.out q.x), rfl⟩
        simp only [Act.put, List.setIfInBounds_toArray, List.set]
        refine upW_late (by rfl) (.bool false) (fun w => run_neB _ _ _ _ 24 rfl Try.underlying24 rH7 rH8 rfl rfl HLH7.out HLH8.out (by kernel_rfl) false (by rw [show decide (rH7 = rH8) = true from (decide_eq_true (eq_le HLH7.out HLH8.out (by simp only [HVH1.out, HVH2.out, HVH7.out, HVH8.out]; exact (by rw [fMul_root _ (fRoot_of_sq _ (le_32 a HLA0.out)), fMul_mod]))))]; rfl) w) ?_
        simp only [Act.put, List.setIfInBounds_toArray, List.set]
        refine upW_val (by rfl) (by rfl) (by rfl) ?_
        intro K hK
        go_big_quiet_op
        refine hK _ ?_
        refine upW_val (by rfl) (by rfl) (by rfl) ?_
        intro K hK
        go_big_quiet_op
        refine hK _ ?_
        refine upW_val (by rfl) (by rfl) (by rfl) (fun K hK => quiet_load_row _ _ rfl M1 rfl 24 _ (0, 0) _ HM1.out Try.underlying24 rfl (sN rH2 HLH2.out) (hK _ ?_))
        simp only [Act.put, List.setIfInBounds_toArray, List.set]
        refine upW_val (by rfl) (by rfl) (by rfl) (fun K hK => quiet_load_row _ _ rfl M0 rfl 24 _ (0, 0) _ HM0.out Try.underlying24 rfl (sN a HLA0.out) (hK _ ?_))
        simp only [Act.put, List.setIfInBounds_toArray, List.set]
        refine upW_call (by rfl) (by rfl) (.agg (byteVals rH9).toArray) _ rfl (by simp) (fun p => ?_) ?_
        · go_big_quiet_op
          exact ⟨_, fun q => Calls.ext_of (HQH9.out q.x), rfl⟩
        simp only [Act.put, List.setIfInBounds_toArray, List.set]
        refine upW_late (by rfl) (.bool true) (fun w => run_neB _ _ _ _ 24 rfl Try.underlying24 rH2 rH9 rfl rfl HLH2.out HLH9.out (by kernel_rfl) true (by rw [show decide (rH2 = rH9) = false from (decide_eq_false (fun h => by have h := congrArg le h; simp only [HVH1.out, HVH2.out, HVH9.out] at h; exact HSM.out h))]; rfl) w) ?_
        simp only [Act.put, List.setIfInBounds_toArray, List.set]
        refine upW_val (by rfl) (by rfl) (by rfl) ?_
        intro K hK
        go_big_quiet_op
        refine hK _ ?_
        refine upW_val (by rfl) (by rfl) (by rfl) (fun K hK => quiet_load_row _ _ rfl M1 rfl 24 _ (0, 0) _ HM1.out Try.underlying24 rfl (sN rH2 HLH2.out) (hK _ ?_))
        simp only [Act.put, List.setIfInBounds_toArray, List.set]
        refine upW_val (by rfl) (by rfl) (by rfl) (fun K hK => quiet_load_row _ _ rfl M0 rfl 24 _ (0, 0) _ HM0.out Try.underlying24 rfl (sN a HLA0.out) (hK _ ?_))
        simp only [Act.put, List.setIfInBounds_toArray, List.set]
        refine upW_call (by rfl) (by rfl) (.agg (byteVals rH10).toArray) _ rfl (by simp) (fun p => ?_) ?_
        · go_big_quiet_op
          exact ⟨_, fun q => Calls.ext_of (HQH10.out q.x), rfl⟩
        simp only [Act.put, List.setIfInBounds_toArray, List.set]
        refine upW_late (by rfl) (.agg (byteVals (zerB 32)).toArray) (fun w => run_zeroN _ _ rfl w) ?_
        simp only [Act.put, List.setIfInBounds_toArray, List.set]
        refine upW_late (by rfl) (.bool false) (fun w => run_neB _ _ _ _ 24 rfl Try.underlying24 rH10 (zerB 32) rfl rfl HLH10.out (zerB_len 32) (by kernel_rfl) false (by rw [show decide (rH10 = (zerB 32)) = true from (decide_eq_true (eq_le HLH10.out (zerB_len 32) (by simp only [HVH1.out, HVH2.out, HVH10.out, le_zer]; exact ((root_same _ (le_32 a HLA0.out)).resolve_left HSM.out))))]; rfl) w) ?_
        simp only [Act.put, List.setIfInBounds_toArray, List.set]
        refine upW_val (by rfl) (by rfl) (by rfl) ?_
        intro K hK
        go_big_quiet_op
        refine hK _ ?_
        refine upW_val (by rfl) (by rfl) (by rfl) ?_
        intro K hK
        go_big_quiet_op
        refine hK _ ?_
        refine upW_nil ⟨List.forall_mem_nil _, fun _ w7 _ _ hbs => ?_⟩
        simp only [List.foldr]
        have HM0' := Lib.hid (HM0.out.ext hbs)
        have HM1' := Lib.hid (HM1.out.ext hbs)
        have HM2' := Lib.hid (HM2.out.ext hbs)
        have HM3' := Lib.hid (HM3.out.ext hbs)
        have HB' := Lib.hid (HB.out.trans (hbs.mono (show N ≤ _ by have := HB.out.size; have := HN.out; omega)))
        clear hbs HB HM0 HM1 HM2 HM3
        have HB := HB'
        have HM0 := HM0'
        have HM1 := HM1'
        have HM2 := HM2'
        have HM3 := HM3'
        clear HB' HM0' HM1' HM2' HM3'
        go_upto_region 9 with fail
        refine wp_region_seq 4 ?_
        simp only [List.take_succ_cons, List.take_zero, List.drop_succ_cons, List.drop_zero]
        refine upW_val (by rfl) (by rfl) (by rfl) (fun K hK => quiet_load_row _ _ rfl M0 rfl 24 _ (0, 0) _ HM0.out Try.underlying24 rfl (sN a HLA0.out) (hK _ ?_))
        simp only [Act.put, List.setIfInBounds_toArray, List.set]
        refine upW_call (by rfl) (by rfl) (.agg (byteVals rH11).toArray) _ rfl (by simp) (fun p => ?_) ?_
        · go_big_quiet_op
          exact ⟨_, fun q => Calls.ext_of (HQH11.out q.x), rfl⟩
        simp only [Act.put, List.setIfInBounds_toArray, List.set]
        refine upW_late (by rfl) (.agg (byteVals (zerB 32)).toArray) (fun w => run_zeroN _ _ rfl w) ?_
        simp only [Act.put, List.setIfInBounds_toArray, List.set]
        refine upW_late (by rfl) (.bool false) (fun w => run_eqB _ _ _ _ 24 rfl Try.underlying24 rH11 (zerB 32) rfl rfl HLH11.out (zerB_len 32) (by kernel_rfl) false (decide_eq_false (fun h => by have h := congrArg le h; simp only [HVH11.out, le_zer] at h; exact HZ.out h)) w) ?_
        simp only [Act.put, List.setIfInBounds_toArray, List.set]
        refine upW_nil (fun w9 hbs => ?_)
        have HM0' := Lib.hid (HM0.out.ext hbs)
        have HM1' := Lib.hid (HM1.out.ext hbs)
        have HM2' := Lib.hid (HM2.out.ext hbs)
        have HM3' := Lib.hid (HM3.out.ext hbs)
        have HB' := Lib.hid (HB.out.trans (hbs.mono (show N ≤ _ by have := HB.out.size; have := HN.out; omega)))
        clear hbs HB HM0 HM1 HM2 HM3
        have HB := HB'
        have HM0 := HM0'
        have HM1 := HM1'
        have HM2 := HM2'
        have HM3 := HM3'
        clear HB' HM0' HM1' HM2' HM3'
        go_wp2_with fail
        refine wp_region_up 41 41 (by kernel_rfl) (by kernel_rfl) (fun _ _ dst _ _ h => by cases dst <;> exact h) ?_
        simp only [List.take_succ_cons, List.take_zero, List.drop_succ_cons, List.drop_zero]
        refine upW_val (by rfl) (by rfl) (by rfl) ?_
        intro K hK
        go_big_quiet_op
        refine hK _ ?_
        refine upW_val (by rfl) (by rfl) (by rfl) ?_
        intro K hK
        go_big_quiet_op
        refine hK _ ?_
        refine upW_val (by rfl) (by rfl) (by rfl) ?_
        intro K hK
        go_big_quiet_op
        refine hK _ ?_
        refine upW_val (by rfl) (by rfl) (by rfl) ?_
        intro K hK
        go_big_quiet_op
        refine hK _ ?_
        refine upW_val (by rfl) (by rfl) (by rfl) ?_
        intro K hK
        go_big_quiet_op
        refine hK _ ?_
        refine upW_val (by rfl) (by rfl) (by rfl) ?_
        intro K hK
        go_big_quiet_op
        refine hK _ ?_
        refine upW_val (by rfl) (by rfl) (by rfl) ?_
        intro K hK
        go_big_quiet_op
        refine hK _ ?_
        refine upW_val (by rfl) (by rfl) (by rfl) (fun K hK => quiet_load_row _ _ rfl M2 rfl 24 _ (0, 0) _ HM2.out Try.underlying24 rfl (sN rH3 HLH3.out) (hK _ ?_))
        simp only [Act.put, List.setIfInBounds_toArray, List.set]
        refine upW_val (by rfl) (by rfl) (by rfl) (fun K hK => quiet_load_row _ _ rfl M2 rfl 24 _ (0, 0) _ HM2.out Try.underlying24 rfl (sN rH3 HLH3.out) (hK _ ?_))
        simp only [Act.put, List.setIfInBounds_toArray, List.set]
        refine upW_call (by rfl) (by rfl) (.agg (byteVals rH12).toArray) _ rfl (by simp) (fun p => ?_) ?_
        · go_big_quiet_op
          exact ⟨_, fun q => Calls.ext_of (HQH12.out q.x), rfl⟩
        simp only [Act.put, List.setIfInBounds_toArray, List.set]
        refine upW_val (by rfl) (by rfl) (by rfl) (fun K hK => quiet_load_row _ _ rfl M0 rfl 24 _ (0, 0) _ HM0.out Try.underlying24 rfl (sN a HLA0.out) (hK _ ?_))
        simp only [Act.put, List.setIfInBounds_toArray, List.set]
        refine upW_call (by rfl) (by rfl) (.agg (byteVals rH13).toArray) _ rfl (by simp) (fun p => ?_) ?_
        · go_big_quiet_op
          exact ⟨_, fun q => Calls.ext_of (HQH13.out q.x), rfl⟩
        simp only [Act.put, List.setIfInBounds_toArray, List.set]
        refine upW_late (by rfl) (.bool true) (fun w => run_eqB _ _ _ _ 24 rfl Try.underlying24 rH12 rH13 rfl rfl HLH12.out HLH13.out (by kernel_rfl) true (decide_eq_true (eq_le HLH12.out HLH13.out (by simp only [HVH3.out, HVH12.out, HVH13.out]; exact (fMul_root _ HIS.out)))) w) ?_
        simp only [Act.put, List.setIfInBounds_toArray, List.set]
        refine upW_val (by rfl) (by rfl) (by rfl) ?_
        intro K hK
        go_big_quiet_op
        refine hK _ ?_
        refine upW_val (by rfl) (by rfl) (by rfl) (fun K hK => quiet_load_row _ _ rfl M2 rfl 24 _ (0, 0) _ HM2.out Try.underlying24 rfl (sN rH3 HLH3.out) (hK _ ?_))
        simp only [Act.put, List.setIfInBounds_toArray, List.set]
        refine upW_call (by rfl) (by rfl) (.bool false) _ rfl (by simp) (fun p => ?_) ?_
        · go_big_quiet_op
          exact ⟨_, fun q => Calls.ext_of (HQH14.out q.x), rfl⟩
        simp only [Act.put, List.setIfInBounds_toArray, List.set]
        refine upW_val (by rfl) (by rfl) (by rfl) ?_
        intro K hK
        go_big_quiet_op
        refine hK _ ?_
        refine upW_val (by rfl) (by rfl) (by rfl) ?_
        intro K hK
        go_big_quiet_op
        refine hK _ ?_
        refine upW_val (by rfl) (by rfl) (by rfl) ?_
        intro K hK
        go_big_quiet_op
        refine hK _ ?_
        refine upW_val (by rfl) (by rfl) (by rfl) ?_
        intro K hK
        go_big_quiet_op
        refine hK _ ?_
        refine upW_val (by rfl) (by rfl) (by rfl) ?_
        intro K hK
        go_big_quiet_op
        refine hK _ ?_
        refine upW_val (by rfl) (by rfl) (by rfl) ?_
        intro K hK
        go_big_quiet_op
        refine hK _ ?_
        refine upW_val (by rfl) (by rfl) (by rfl) ?_
        intro K hK
        go_big_quiet_op
        refine hK _ ?_
        refine upW_skip (by rfl) ?_
        simp only [Act.put, List.setIfInBounds_toArray, List.set]
        refine upW_skip (by rfl) ?_
        simp only [Act.put, List.setIfInBounds_toArray, List.set]
        refine upW_skip (by rfl) ?_
        simp only [Act.put, List.setIfInBounds_toArray, List.set]
        refine upW_val (by rfl) (by rfl) (by rfl) ?_
        intro K hK
        go_big_quiet_op
        refine hK _ ?_
        refine upW_val (by rfl) (by rfl) (by rfl) ?_
        intro K hK
        go_big_quiet_op
        refine hK _ ?_
        refine upW_val (by rfl) (by rfl) (by rfl) ?_
        intro K hK
        go_big_quiet_op
        refine hK _ ?_
        refine upW_val (by rfl) (by rfl) (by rfl) ?_
        intro K hK
        go_big_quiet_op
        refine hK _ ?_
        refine upW_val (by rfl) (by rfl) (by rfl) ?_
        intro K hK
        go_big_quiet_op
        refine hK _ ?_
        refine upW_val (by rfl) (by rfl) (by rfl) ?_
        intro K hK
        go_big_quiet_op
        refine hK _ ?_
        refine upW_skip (by rfl) ?_
        simp only [Act.put, List.setIfInBounds_toArray, List.set]
        refine upW_skip (by rfl) ?_
        simp only [Act.put, List.setIfInBounds_toArray, List.set]
        refine upW_skip (by rfl) ?_
        simp only [Act.put, List.setIfInBounds_toArray, List.set]
        refine upW_skip (by rfl) ?_
        simp only [Act.put, List.setIfInBounds_toArray, List.set]
        refine upW_skip (by rfl) ?_
        simp only [Act.put, List.setIfInBounds_toArray, List.set]
        refine upW_skip (by rfl) ?_
        simp only [Act.put, List.setIfInBounds_toArray, List.set]
        refine upW_skip (by rfl) ?_
        simp only [Act.put, List.setIfInBounds_toArray, List.set]
        refine upW_val (by rfl) (by rfl) (by rfl) ?_
        intro K hK
        go_big_quiet_op
        refine hK _ ?_
        refine upW_val (by rfl) (by rfl) (by rfl) ?_
        intro K hK
        go_big_quiet_op
        refine hK _ ?_
        refine upW_nil (fun w10 hbs => ?_)
        have HF := Lib.hid (HB.out.trans (hbs.mono (show N ≤ _ by have := HB.out.size; have := HN.out; omega)))
        clear hbs
        go_wp2
        go_ret
        exact ⟨rfl, HN.out.symm ▸ HF.out⟩
      | false =>
        have HIS := Lib.hid his
        clear his
        obtain ⟨rH1, hrH1⟩ : ∃ r, b32 (fMul (le a) (le a)) = r := ⟨_, rfl⟩
        have HQH1 := Lib.hid (fun w => Mul_any a a w HLA0.out HLA0.out)
        rw [hrH1] at HQH1
        have HLH1 := Lib.hid (show rH1.length = 32 by rw [← hrH1]; exact b32_len _)
        have HVH1 := Lib.hid (show le rH1 = fMul (le a) (le a) by rw [← hrH1]; exact le_b32 _ (lt4 (fMul_lt _ _ )))
        clear hrH1
        obtain ⟨rH2, hrH2⟩ : ∃ r, b32 (fRoot (le rH1)).1 = r := ⟨_, rfl⟩
        have HQH2 := Lib.hid (fun w => Root_any rH1 w HLH1.out)
        rw [hrH2, show (fRoot (le rH1)).2 = true from (by simp only [HVH1.out]; exact fRoot_of_sq _ (le_32 a HLA0.out))] at HQH2
        have HLH2 := Lib.hid (show rH2.length = 32 by rw [← hrH2]; exact b32_len _)
        have HVH2 := Lib.hid (show le rH2 = (fRoot (le rH1)).1 by rw [← hrH2]; exact le_b32 _ (lt4 (fRoot_lt _)))
        clear hrH2
        obtain ⟨rH3, hrH3⟩ : ∃ r, b32 (fRoot (le a)).1 = r := ⟨_, rfl⟩
        have HQH3 := Lib.hid (fun w => Root_any a w HLA0.out)
        rw [hrH3, show (fRoot (le a)).2 = false from HIS.out] at HQH3
        have HLH3 := Lib.hid (show rH3.length = 32 by rw [← hrH3]; exact b32_len _)
        have HVH3 := Lib.hid (show le rH3 = (fRoot (le a)).1 by rw [← hrH3]; exact le_b32 _ (lt4 (fRoot_lt _)))
        clear hrH3
        obtain ⟨rH4, hrH4⟩ : ∃ r, b32 (fAdd (le a) (le a)) = r := ⟨_, rfl⟩
        have HQH4 := Lib.hid (fun w => Add_any a a w HLA0.out HLA0.out)
        rw [hrH4] at HQH4
        have HLH4 := Lib.hid (show rH4.length = 32 by rw [← hrH4]; exact b32_len _)
        have HVH4 := Lib.hid (show le rH4 = fAdd (le a) (le a) by rw [← hrH4]; exact le_b32 _ (lt4 (fAdd_lt _ _ )))
        clear hrH4
        obtain ⟨rH5, hrH5⟩ : ∃ r, b32 (fRoot (le rH4)).1 = r := ⟨_, rfl⟩
        have HQH5 := Lib.hid (fun w => Root_any rH4 w HLH4.out)
        rw [hrH5, show (fRoot (le rH4)).2 = true from (by simp only [HVH4.out]; exact (by rw [fRoot_two _ HZ.out, HIS.out]; rfl))] at HQH5
        have HLH5 := Lib.hid (show rH5.length = 32 by rw [← hrH5]; exact b32_len _)
        have HVH5 := Lib.hid (show le rH5 = (fRoot (le rH4)).1 by rw [← hrH5]; exact le_b32 _ (lt4 (fRoot_lt _)))
        clear hrH5
        have HQH6 := Lib.hid (fun w => Odd_any rH2 w HLH2.out)
        rw [show decide (le rH2 % 57896044618658097711785492504343953926634992332820282019728792003956564819949 % 2 = 1) = false from (by rw [HVH2.out]; exact fRoot_odd _)] at HQH6
        obtain ⟨rH7, hrH7⟩ : ∃ r, b32 (fMul (le rH2) (le rH2)) = r := ⟨_, rfl⟩
        have HQH7 := Lib.hid (fun w => Mul_any rH2 rH2 w HLH2.out HLH2.out)
        rw [hrH7] at HQH7
        have HLH7 := Lib.hid (show rH7.length = 32 by rw [← hrH7]; exact b32_len _)
        have HVH7 := Lib.hid (show le rH7 = fMul (le rH2) (le rH2) by rw [← hrH7]; exact le_b32 _ (lt4 (fMul_lt _ _ )))
        clear hrH7
        obtain ⟨rH8, hrH8⟩ : ∃ r, b32 (fMul (le a) (le a)) = r := ⟨_, rfl⟩
        have HQH8 := Lib.hid (fun w => Mul_any a a w HLA0.out HLA0.out)
        rw [hrH8] at HQH8
        have HLH8 := Lib.hid (show rH8.length = 32 by rw [← hrH8]; exact b32_len _)
        have HVH8 := Lib.hid (show le rH8 = fMul (le a) (le a) by rw [← hrH8]; exact le_b32 _ (lt4 (fMul_lt _ _ )))
        clear hrH8
        obtain ⟨rH9, hrH9⟩ : ∃ r, b32 (le a % 57896044618658097711785492504343953926634992332820282019728792003956564819949) = r := ⟨_, rfl⟩
        have HQH9 := Lib.hid (fun w => Rest_any a w HLA0.out)
        rw [hrH9] at HQH9
        have HLH9 := Lib.hid (show rH9.length = 32 by rw [← hrH9]; exact b32_len _)
        have HVH9 := Lib.hid (show le rH9 = le a % 57896044618658097711785492504343953926634992332820282019728792003956564819949 by rw [← hrH9]; exact le_b32 _ (lt4 (Nat.mod_lt _ P_pos)))
        clear hrH9
        obtain ⟨rH10, hrH10⟩ : ∃ r, b32 (fAdd (le rH2) (le a)) = r := ⟨_, rfl⟩
        have HQH10 := Lib.hid (fun w => Add_any rH2 a w HLH2.out HLA0.out)
        rw [hrH10] at HQH10
        have HLH10 := Lib.hid (show rH10.length = 32 by rw [← hrH10]; exact b32_len _)
        have HVH10 := Lib.hid (show le rH10 = fAdd (le rH2) (le a) by rw [← hrH10]; exact le_b32 _ (lt4 (fAdd_lt _ _ )))
        clear hrH10
        obtain ⟨rH11, hrH11⟩ : ∃ r, b32 (le a % 57896044618658097711785492504343953926634992332820282019728792003956564819949) = r := ⟨_, rfl⟩
        have HQH11 := Lib.hid (fun w => Rest_any a w HLA0.out)
        rw [hrH11] at HQH11
        have HLH11 := Lib.hid (show rH11.length = 32 by rw [← hrH11]; exact b32_len _)
        have HVH11 := Lib.hid (show le rH11 = le a % 57896044618658097711785492504343953926634992332820282019728792003956564819949 by rw [← hrH11]; exact le_b32 _ (lt4 (Nat.mod_lt _ P_pos)))
        clear hrH11
        obtain ⟨rH12, hrH12⟩ : ∃ r, b32 (fMul (le rH5) (le rH5)) = r := ⟨_, rfl⟩
        have HQH12 := Lib.hid (fun w => Mul_any rH5 rH5 w HLH5.out HLH5.out)
        rw [hrH12] at HQH12
        have HLH12 := Lib.hid (show rH12.length = 32 by rw [← hrH12]; exact b32_len _)
        have HVH12 := Lib.hid (show le rH12 = fMul (le rH5) (le rH5) by rw [← hrH12]; exact le_b32 _ (lt4 (fMul_lt _ _ )))
        clear hrH12
        obtain ⟨rH13, hrH13⟩ : ∃ r, b32 (fAdd (le a) (le a)) = r := ⟨_, rfl⟩
        have HQH13 := Lib.hid (fun w => Add_any a a w HLA0.out HLA0.out)
        rw [hrH13] at HQH13
        have HLH13 := Lib.hid (show rH13.length = 32 by rw [← hrH13]; exact b32_len _)
        have HVH13 := Lib.hid (show le rH13 = fAdd (le a) (le a) by rw [← hrH13]; exact le_b32 _ (lt4 (fAdd_lt _ _ )))
        clear hrH13
        go_enter Try.func7, Try.ntmps7
        go_upto_region 1 with fail
        generalize hW1 : World.alloc _ _ = W1
        obtain ⟨N, hN⟩ : ∃ n, w.heap.size = n := ⟨_, rfl⟩
        have HX0 := Lib.hid (show BT W1 N 23 a by subst hW1; rw [← hN]; exact Go.heap_alloc_new _ _)
        have HB := Lib.hid (show Below N w W1 by subst hW1; rw [← hN]; exact (Below.refl _ w).alloc (Nat.le_refl _) _)
        have HN := Lib.hid hN
        rw [hN]
        clear hW1 hN
        go_wp2_with fail
        refine (awake_any _).mono ?_
        rintro e wa ⟨rfl, hba⟩
        have HX0' := Lib.hid (HX0.out.ext hba)
        have HB' := Lib.hid (HB.out.trans (hba.mono (show N ≤ _ by have := HX0.out.lt; omega)))
        clear hba HB HX0
        have HB := HB'
        have HX0 := HX0'
        clear HB' HX0'
        go_upto_region 3 with fail
        refine wp_region_seq 1 ?_
        simp only [List.take_succ_cons, List.take_zero, List.drop_succ_cons, List.drop_zero]
        refine upW_val (by rfl) (by rfl) (by rfl) (fun K hK => quiet_load_row _ _ rfl N rfl 23 _ (0, 0) _ HX0.out Try.underlying23 rfl (sB a HLA0.out) (hK _ ?_))
        simp only [Act.put, List.setIfInBounds_toArray, List.set]
        refine upW_nil (fun ws0 hbs0 => ?_)
        go_wp2_with (refine wpList_store_row rfl 24 _ _ rfl ws0.heap.size ((byteVals a).toArray) rfl rfl 24 _ (Go.heap_alloc_new _ _) (sN a HLA0.out) ?hold (byteVals_one _) (Stop.out ?_))
        case hold => rw [size_byteVals, size_byteVals, zerB_len, HLA0.out]
        generalize hWS : World.setRow _ _ _ = W0
        obtain ⟨M0, hM⟩ : ∃ n, ws0.heap.size = n := ⟨_, rfl⟩
        have HM0 := Lib.hid (show BT W0 M0 24 a by subst hWS; rw [← hM]; exact setRow_heap _ _ _ _ _ _ (Go.heap_alloc_new _ _))
        have HB' := Lib.hid (show Below N w W0 by subst hWS; exact Below.setRow ((HB.out.trans (hbs0.mono (show N ≤ _ by have := HB.out.size; have := HN.out; omega))).alloc (by have := hbs0.size; have := HB.out.size; have := HN.out; omega) _) (by have := hbs0.size; have := HB.out.size; have := HN.out; omega) _)
        rw [hM]
        clear hWS hM hbs0 HB 
        have HB := HB'
        clear HB' 
        refine ⟨?_⟩
        go_upto_region 4 with fail
        refine wp_region_seq 7 ?_
        simp only [List.take_succ_cons, List.take_zero, List.drop_succ_cons, List.drop_zero]
        refine upW_val (by rfl) (by rfl) (by rfl) (fun K hK => quiet_load_row _ _ rfl M0 rfl 24 _ (0, 0) _ HM0.out Try.underlying24 rfl (sN a HLA0.out) (hK _ ?_))
        simp only [Act.put, List.setIfInBounds_toArray, List.set]
        refine upW_val (by rfl) (by rfl) (by rfl) (fun K hK => quiet_load_row _ _ rfl M0 rfl 24 _ (0, 0) _ HM0.out Try.underlying24 rfl (sN a HLA0.out) (hK _ ?_))
        simp only [Act.put, List.setIfInBounds_toArray, List.set]
        refine upW_call (by rfl) (by rfl) (.agg (byteVals rH1).toArray) _ rfl (by simp) (fun p => ?_) ?_
        · go_big_quiet_op
          exact ⟨_, fun q => Calls.ext_of (HQH1.out q.x), rfl⟩
        simp only [Act.put, List.setIfInBounds_toArray, List.set]
        refine upW_call (by rfl) (by rfl) (.tuple #[.agg (byteVals rH2).toArray, .bool true]) _ rfl (by simp) (fun p => ?_) ?_
        · go_big_quiet_op
          exact ⟨_, fun q => Calls.ext_of (HQH2.out q.x), rfl⟩
        simp only [Act.put, List.setIfInBounds_toArray, List.set]
        refine upW_val (by rfl) (by rfl) (by rfl) ?_
        intro K hK
        go_big_quiet_op
        refine hK _ ?_
        refine upW_late (by rfl) (.agg (byteVals rH2).toArray) (fun _ => rfl) ?_
        simp only [Act.put, List.setIfInBounds_toArray, List.set]
        refine upW_late (by rfl) (.bool true) (fun _ => rfl) ?_
        simp only [Act.put, List.setIfInBounds_toArray, List.set]
        refine upW_nil (fun ws1 hbs1 => ?_)
        go_wp2_with (refine wpList_store_row rfl 24 _ _ rfl ws1.heap.size ((byteVals rH2).toArray) rfl rfl 24 _ (Go.heap_alloc_new _ _) (sN rH2 HLH2.out) ?hold (byteVals_one _) (Stop.out ?_))
        case hold => rw [size_byteVals, size_byteVals, zerB_len, HLH2.out]
        generalize hWS : World.setRow _ _ _ = W1
        obtain ⟨M1, hM⟩ : ∃ n, ws1.heap.size = n := ⟨_, rfl⟩
        have HM1 := Lib.hid (show BT W1 M1 24 rH2 by subst hWS; rw [← hM]; exact setRow_heap _ _ _ _ _ _ (Go.heap_alloc_new _ _))
        have HM0' := Lib.hid (show BT W1 M0 24 a by subst hWS; exact (HM0.out.ext hbs1).other ((setRow_other _ _ _ _ (by rw [hM]; have := (HM0.out.ext hbs1).lt; omega)).trans (Go.heap_alloc_old _ _ (HM0.out.ext hbs1).lt)))
        have HB' := Lib.hid (show Below N w W1 by subst hWS; exact Below.setRow ((HB.out.trans (hbs1.mono (show N ≤ _ by have := HB.out.size; have := HN.out; omega))).alloc (by have := hbs1.size; have := HB.out.size; have := HN.out; omega) _) (by have := hbs1.size; have := HB.out.size; have := HN.out; omega) _)
        rw [hM]
        clear hWS hM hbs1 HB HM0
        have HB := HB'
        have HM0 := HM0'
        clear HB' HM0'
        refine ⟨?_⟩
        go_upto_region 5 with fail
        refine wp_region_seq 5 ?_
        simp only [List.take_succ_cons, List.take_zero, List.drop_succ_cons, List.drop_zero]
        refine upW_val (by rfl) (by rfl) (by rfl) (fun K hK => quiet_load_row _ _ rfl M0 rfl 24 _ (0, 0) _ HM0.out Try.underlying24 rfl (sN a HLA0.out) (hK _ ?_))
        simp only [Act.put, List.setIfInBounds_toArray, List.set]
        refine upW_call (by rfl) (by rfl) (.tuple #[.agg (byteVals rH3).toArray, .bool false]) _ rfl (by simp) (fun p => ?_) ?_
        · go_big_quiet_op
          exact ⟨_, fun q => Calls.ext_of (HQH3.out q.x), rfl⟩
        simp only [Act.put, List.setIfInBounds_toArray, List.set]
        refine upW_val (by rfl) (by rfl) (by rfl) ?_
        intro K hK
        go_big_quiet_op
        refine hK _ ?_
        refine upW_late (by rfl) (.agg (byteVals rH3).toArray) (fun _ => rfl) ?_
        simp only [Act.put, List.setIfInBounds_toArray, List.set]
        refine upW_late (by rfl) (.bool false) (fun _ => rfl) ?_
        simp only [Act.put, List.setIfInBounds_toArray, List.set]
        refine upW_nil (fun ws2 hbs2 => ?_)
        go_wp2_with (refine wpList_store_row rfl 24 _ _ rfl ws2.heap.size ((byteVals rH3).toArray) rfl rfl 24 _ (Go.heap_alloc_new _ _) (sN rH3 HLH3.out) ?hold (byteVals_one _) (Stop.out ?_))
        case hold => rw [size_byteVals, size_byteVals, zerB_len, HLH3.out]
        generalize hWS : World.setRow _ _ _ = W2
        obtain ⟨M2, hM⟩ : ∃ n, ws2.heap.size = n := ⟨_, rfl⟩
        have HM2 := Lib.hid (show BT W2 M2 24 rH3 by subst hWS; rw [← hM]; exact setRow_heap _ _ _ _ _ _ (Go.heap_alloc_new _ _))
        have HM0' := Lib.hid (show BT W2 M0 24 a by subst hWS; exact (HM0.out.ext hbs2).other ((setRow_other _ _ _ _ (by rw [hM]; have := (HM0.out.ext hbs2).lt; omega)).trans (Go.heap_alloc_old _ _ (HM0.out.ext hbs2).lt)))
        have HM1' := Lib.hid (show BT W2 M1 24 rH2 by subst hWS; exact (HM1.out.ext hbs2).other ((setRow_other _ _ _ _ (by rw [hM]; have := (HM1.out.ext hbs2).lt; omega)).trans (Go.heap_alloc_old _ _ (HM1.out.ext hbs2).lt)))
        have HB' := Lib.hid (show Below N w W2 by subst hWS; exact Below.setRow ((HB.out.trans (hbs2.mono (show N ≤ _ by have := HB.out.size; have := HN.out; omega))).alloc (by have := hbs2.size; have := HB.out.size; have := HN.out; omega) _) (by have := hbs2.size; have := HB.out.size; have := HN.out; omega) _)
        rw [hM]
        clear hWS hM hbs2 HB HM0 HM1
        have HB := HB'
        have HM0 := HM0'
        have HM1 := HM1'
        clear HB' HM0' HM1'
        refine ⟨?_⟩
        go_upto_region 6 with fail
        refine wp_region_seq 7 ?_
        simp only [List.take_succ_cons, List.take_zero, List.drop_succ_cons, List.drop_zero]
        refine upW_val (by rfl) (by rfl) (by rfl) (fun K hK => quiet_load_row _ _ rfl M0 rfl 24 _ (0, 0) _ HM0.out Try.underlying24 rfl (sN a HLA0.out) (hK _ ?_))
        simp only [Act.put, List.setIfInBounds_toArray, List.set]
        refine upW_val (by rfl) (by rfl) (by rfl) (fun K hK => quiet_load_row _ _ rfl M0 rfl 24 _ (0, 0) _ HM0.out Try.underlying24 rfl (sN a HLA0.out) (hK _ ?_))
        simp only [Act.put, List.setIfInBounds_toArray, List.set]
        refine upW_call (by rfl) (by rfl) (.agg (byteVals rH4).toArray) _ rfl (by simp) (fun p => ?_) ?_
        · go_big_quiet_op
          exact ⟨_, fun q => Calls.ext_of (HQH4.out q.x), rfl⟩
        simp only [Act.put, List.setIfInBounds_toArray, List.set]
        refine upW_call (by rfl) (by rfl) (.tuple #[.agg (byteVals rH5).toArray, .bool true]) _ rfl (by simp) (fun p => ?_) ?_
        · go_big_quiet_op
          exact ⟨_, fun q => Calls.ext_of (HQH5.out q.x), rfl⟩
        simp only [Act.put, List.setIfInBounds_toArray, List.set]
        refine upW_val (by rfl) (by rfl) (by rfl) ?_
        intro K hK
        go_big_quiet_op
        refine hK _ ?_
        refine upW_late (by rfl) (.agg (byteVals rH5).toArray) (fun _ => rfl) ?_
        simp only [Act.put, List.setIfInBounds_toArray, List.set]
        refine upW_late (by rfl) (.bool true) (fun _ => rfl) ?_
        simp only [Act.put, List.setIfInBounds_toArray, List.set]
        refine upW_nil (fun ws3 hbs3 => ?_)
        go_wp2_with (refine wpList_store_row rfl 24 _ _ rfl ws3.heap.size ((byteVals rH5).toArray) rfl rfl 24 _ (Go.heap_alloc_new _ _) (sN rH5 HLH5.out) ?hold (byteVals_one _) (Stop.out ?_))
        case hold => rw [size_byteVals, size_byteVals, zerB_len, HLH5.out]
        generalize hWS : World.setRow _ _ _ = W3
        obtain ⟨M3, hM⟩ : ∃ n, ws3.heap.size = n := ⟨_, rfl⟩
        have HM3 := Lib.hid (show BT W3 M3 24 rH5 by subst hWS; rw [← hM]; exact setRow_heap _ _ _ _ _ _ (Go.heap_alloc_new _ _))
        have HM0' := Lib.hid (show BT W3 M0 24 a by subst hWS; exact (HM0.out.ext hbs3).other ((setRow_other _ _ _ _ (by rw [hM]; have := (HM0.out.ext hbs3).lt; omega)).trans (Go.heap_alloc_old _ _ (HM0.out.ext hbs3).lt)))
        have HM1' := Lib.hid (show BT W3 M1 24 rH2 by subst hWS; exact (HM1.out.ext hbs3).other ((setRow_other _ _ _ _ (by rw [hM]; have := (HM1.out.ext hbs3).lt; omega)).trans (Go.heap_alloc_old _ _ (HM1.out.ext hbs3).lt)))
        have HM2' := Lib.hid (show BT W3 M2 24 rH3 by subst hWS; exact (HM2.out.ext hbs3).other ((setRow_other _ _ _ _ (by rw [hM]; have := (HM2.out.ext hbs3).lt; omega)).trans (Go.heap_alloc_old _ _ (HM2.out.ext hbs3).lt)))
        have HB' := Lib.hid (show Below N w W3 by subst hWS; exact Below.setRow ((HB.out.trans (hbs3.mono (show N ≤ _ by have := HB.out.size; have := HN.out; omega))).alloc (by have := hbs3.size; have := HB.out.size; have := HN.out; omega) _) (by have := hbs3.size; have := HB.out.size; have := HN.out; omega) _)
        rw [hM]
        clear hWS hM hbs3 HB HM0 HM1 HM2
        have HB := HB'
        have HM0 := HM0'
        have HM1 := HM1'
        have HM2 := HM2'
        clear HB' HM0' HM1' HM2'
        refine ⟨?_⟩
        go_wp2_with fail
        refine wp_region_whole (List.range 28) [] [] (by kernel_rfl) (by kernel_rfl) (List.forall_mem_nil _) rfl ?_
        simp only [List.foldl]
        refine upW_val (by rfl) (by rfl) (by rfl) ?_
        intro K hK
        go_big_quiet_op
        refine hK _ ?_
        refine upW_val (by rfl) (by rfl) (by rfl) ?_
        intro K hK
        go_big_quiet_op
        refine hK _ ?_
        refine upW_val (by rfl) (by rfl) (by rfl) ?_
        intro K hK
        go_big_quiet_op
        refine hK _ ?_
        refine upW_val (by rfl) (by rfl) (by rfl) (fun K hK => quiet_load_row _ _ rfl M1 rfl 24 _ (0, 0) _ HM1.out Try.underlying24 rfl (sN rH2 HLH2.out) (hK _ ?_))
        simp only [Act.put, List.setIfInBounds_toArray, List.set]
        refine upW_call (by rfl) (by rfl) (.bool false) _ rfl (by simp) (fun p => ?_) ?_
        · go_big_quiet_op
          exact ⟨_, fun q => Calls.ext_of (HQH6.out q.x), rfl⟩
        simp only [Act.put, List.setIfInBounds_toArray, List.set]
        refine upW_val (by rfl) (by rfl) (by rfl) ?_
        intro K hK
        go_big_quiet_op
        refine hK _ ?_
        refine upW_val (by rfl) (by rfl) (by rfl) ?_
        intro K hK
        go_big_quiet_op
        refine hK _ ?_
        refine upW_val (by rfl) (by rfl) (by rfl) (fun K hK => quiet_load_row _ _ rfl M1 rfl 24 _ (0, 0) _ HM1.out Try.underlying24 rfl (sN rH2 HLH2.out) (hK _ ?_))
        simp only [Act.put, List.setIfInBounds_toArray, List.set]
        refine upW_val (by rfl) (by rfl) (by rfl) (fun K hK => quiet_load_row _ _ rfl M1 rfl 24 _ (0, 0) _ HM1.out Try.underlying24 rfl (sN rH2 HLH2.out) (hK _ ?_))
        simp only [Act.put, List.setIfInBounds_toArray, List.set]
        refine upW_call (by rfl) (by rfl) (.agg (byteVals rH7).toArray) _ rfl (by simp) (fun p => ?_) ?_
        · go_big_quiet_op
          exact ⟨_, fun q => Calls.ext_of (HQH7.out q.x), rfl⟩
        simp only [Act.put, List.setIfInBounds_toArray, List.set]
        refine upW_val (by rfl) (by rfl) (by rfl) (fun K hK => quiet_load_row _ _ rfl M0 rfl 24 _ (0, 0) _ HM0.out Try.underlying24 rfl (sN a HLA0.out) (hK _ ?_))
        simp only [Act.put, List.setIfInBounds_toArray, List.set]
        refine upW_val (by rfl) (by rfl) (by rfl) (fun K hK => quiet_load_row _ _ rfl M0 rfl 24 _ (0, 0) _ HM0.out Try.underlying24 rfl (sN a HLA0.out) (hK _ ?_))
        simp only [Act.put, List.setIfInBounds_toArray, List.set]
        refine upW_call (by rfl) (by rfl) (.agg (byteVals rH8).toArray) _ rfl (by simp) (fun p => ?_) ?_
        · go_big_quiet_op
          exact ⟨_, fun q => Calls.ext_of (HQH8.out q.x), rfl⟩
        simp only [Act.put, List.setIfInBounds_toArray, List.set]
        refine upW_late (by rfl) (.bool false) (fun w => run_neB _ _ _ _ 24 rfl Try.underlying24 rH7 rH8 rfl rfl HLH7.out HLH8.out (by kernel_rfl) false (by rw [show decide (rH7 = rH8) = true from (decide_eq_true (eq_le HLH7.out HLH8.out (by simp only [HVH1.out, HVH2.out, HVH7.out, HVH8.out]; exact (by rw [fMul_root _ (fRoot_of_sq _ (le_32 a HLA0.out)), fMul_mod]))))]; rfl) w) ?_
        simp only [Act.put, List.setIfInBounds_toArray, List.set]
        refine upW_val (by rfl) (by rfl) (by rfl) ?_
        intro K hK
        go_big_quiet_op
        refine hK _ ?_
        refine upW_val (by rfl) (by rfl) (by rfl) ?_
        intro K hK
        go_big_quiet_op
        refine hK _ ?_
        refine upW_val (by rfl) (by rfl) (by rfl) (fun K hK => quiet_load_row _ _ rfl M1 rfl 24 _ (0, 0) _ HM1.out Try.underlying24 rfl (sN rH2 HLH2.out) (hK _ ?_))
        simp only [Act.put, List.setIfInBounds_toArray, List.set]
        refine upW_val (by rfl) (by rfl) (by rfl) (fun K hK => quiet_load_row _ _ rfl M0 rfl 24 _ (0, 0) _ HM0.out Try.underlying24 rfl (sN a HLA0.out) (hK _ ?_))
        simp only [Act.put, List.setIfInBounds_toArray, List.set]
        refine upW_call (by rfl) (by rfl) (.agg (byteVals rH9).toArray) _ rfl (by simp) (fun p => ?_) ?_
        · go_big_quiet_op
          exact ⟨_, fun q => Calls.ext_of (HQH9.out q.x), rfl⟩
        simp only [Act.put, List.setIfInBounds_toArray, List.set]
        refine upW_late (by rfl) (.bool true) (fun w => run_neB _ _ _ _ 24 rfl Try.underlying24 rH2 rH9 rfl rfl HLH2.out HLH9.out (by kernel_rfl) true (by rw [show decide (rH2 = rH9) = false from (decide_eq_false (fun h => by have h := congrArg le h; simp only [HVH1.out, HVH2.out, HVH9.out] at h; exact HSM.out h))]; rfl) w) ?_
        simp only [Act.put, List.setIfInBounds_toArray, List.set]
        refine upW_val (by rfl) (by rfl) (by rfl) ?_
        intro K hK
        go_big_quiet_op
        refine hK _ ?_
        refine upW_val (by rfl) (by rfl) (by rfl) (fun K hK => quiet_load_row _ _ rfl M1 rfl 24 _ (0, 0) _ HM1.out Try.underlying24 rfl (sN rH2 HLH2.out) (hK _ ?_))
        simp only [Act.put, List.setIfInBounds_toArray, List.set]
        refine upW_val (by rfl) (by rfl) (by rfl) (fun K hK => quiet_load_row _ _ rfl M0 rfl 24 _ (0, 0) _ HM0.out Try.underlying24 rfl (sN a HLA0.out) (hK _ ?_))
        simp only [Act.put, List.setIfInBounds_toArray, List.set]
        refine upW_call (by rfl) (by rfl) (.agg (byteVals rH10).toArray) _ rfl (by simp) (fun p => ?_) ?_
        · go_big_quiet_op
          exact ⟨_, fun q => Calls.ext_of (HQH10.out q.x), rfl⟩
        simp only [Act.put, List.setIfInBounds_toArray, List.set]
        refine upW_late (by rfl) (.agg (byteVals (zerB 32)).toArray) (fun w => run_zeroN _ _ rfl w) ?_
        simp only [Act.put, List.setIfInBounds_toArray, List.set]
        refine upW_late (by rfl) (.bool false) (fun w => run_neB _ _ _ _ 24 rfl Try.underlying24 rH10 (zerB 32) rfl rfl HLH10.out (zerB_len 32) (by kernel_rfl) false (by rw [show decide (rH10 = (zerB 32)) = true from (decide_eq_true (eq_le HLH10.out (zerB_len 32) (by simp only [HVH1.out, HVH2.out, HVH10.out, le_zer]; exact ((root_same _ (le_32 a HLA0.out)).resolve_left HSM.out))))]; rfl) w) ?_
        simp only [Act.put, List.setIfInBounds_toArray, List.set]
        refine upW_val (by rfl) (by rfl) (by rfl) ?_
        intro K hK
        go_big_quiet_op
        refine hK _ ?_
        refine upW_val (by rfl) (by rfl) (by rfl) ?_
        intro K hK
        go_big_quiet_op
        refine hK _ ?_
        refine upW_nil ⟨List.forall_mem_nil _, fun _ w7 _ _ hbs => ?_⟩
        simp only [List.foldr]
        have HM0' := Lib.hid (HM0.out.ext hbs)
        have HM1' := Lib.hid (HM1.out.ext hbs)
        have HM2' := Lib.hid (HM2.out.ext hbs)
        have HM3' := Lib.hid (HM3.out.ext hbs)
        have HB' := Lib.hid (HB.out.trans (hbs.mono (show N ≤ _ by have := HB.out.size; have := HN.out; omega)))
        clear hbs HB HM0 HM1 HM2 HM3
        have HB := HB'
        have HM0 := HM0'
        have HM1 := HM1'
        have HM2 := HM2'
        have HM3 := HM3'
        clear HB' HM0' HM1' HM2' HM3'
        go_upto_region 9 with fail
        refine wp_region_seq 4 ?_
        simp only [List.take_succ_cons, List.take_zero, List.drop_succ_cons, List.drop_zero]
        refine upW_val (by rfl) (by rfl) (by rfl) (fun K hK => quiet_load_row _ _ rfl M0 rfl 24 _ (0, 0) _ HM0.out Try.underlying24 rfl (sN a HLA0.out) (hK _ ?_))
        simp only [Act.put, List.setIfInBounds_toArray, List.set]
        refine upW_call (by rfl) (by rfl) (.agg (byteVals rH11).toArray) _ rfl (by simp) (fun p => ?_) ?_
        · go_big_quiet_op
          exact ⟨_, fun q => Calls.ext_of (HQH11.out q.x), rfl⟩
        simp only [Act.put, List.setIfInBounds_toArray, List.set]
        refine upW_late (by rfl) (.agg (byteVals (zerB 32)).toArray) (fun w => run_zeroN _ _ rfl w) ?_
        simp only [Act.put, List.setIfInBounds_toArray, List.set]
        refine upW_late (by rfl) (.bool false) (fun w => run_eqB _ _ _ _ 24 rfl Try.underlying24 rH11 (zerB 32) rfl rfl HLH11.out (zerB_len 32) (by kernel_rfl) false (decide_eq_false (fun h => by have h := congrArg le h; simp only [HVH11.out, le_zer] at h; exact HZ.out h)) w) ?_
        simp only [Act.put, List.setIfInBounds_toArray, List.set]
        refine upW_nil (fun w9 hbs => ?_)
        have HM0' := Lib.hid (HM0.out.ext hbs)
        have HM1' := Lib.hid (HM1.out.ext hbs)
        have HM2' := Lib.hid (HM2.out.ext hbs)
        have HM3' := Lib.hid (HM3.out.ext hbs)
        have HB' := Lib.hid (HB.out.trans (hbs.mono (show N ≤ _ by have := HB.out.size; have := HN.out; omega)))
        clear hbs HB HM0 HM1 HM2 HM3
        have HB := HB'
        have HM0 := HM0'
        have HM1 := HM1'
        have HM2 := HM2'
        have HM3 := HM3'
        clear HB' HM0' HM1' HM2' HM3'
        go_wp2_with fail
        refine wp_region_up 41 41 (by kernel_rfl) (by kernel_rfl) (fun _ _ dst _ _ h => by cases dst <;> exact h) ?_
        simp only [List.take_succ_cons, List.take_zero, List.drop_succ_cons, List.drop_zero]
        refine upW_val (by rfl) (by rfl) (by rfl) ?_
        intro K hK
        go_big_quiet_op
        refine hK _ ?_
        refine upW_val (by rfl) (by rfl) (by rfl) ?_
        intro K hK
        go_big_quiet_op
        refine hK _ ?_
        refine upW_val (by rfl) (by rfl) (by rfl) ?_
        intro K hK
        go_big_quiet_op
        refine hK _ ?_
        refine upW_val (by rfl) (by rfl) (by rfl) ?_
        intro K hK
        go_big_quiet_op
        refine hK _ ?_
        refine upW_val (by rfl) (by rfl) (by rfl) ?_
        intro K hK
        go_big_quiet_op
        refine hK _ ?_
        refine upW_val (by rfl) (by rfl) (by rfl) ?_
        intro K hK
        go_big_quiet_op
        refine hK _ ?_
        refine upW_val (by rfl) (by rfl) (by rfl) ?_
        intro K hK
        go_big_quiet_op
        refine hK _ ?_
        refine upW_skip (by rfl) ?_
        simp only [Act.put, List.setIfInBounds_toArray, List.set]
        refine upW_skip (by rfl) ?_
        simp only [Act.put, List.setIfInBounds_toArray, List.set]
        refine upW_skip (by rfl) ?_
        simp only [Act.put, List.setIfInBounds_toArray, List.set]
        refine upW_skip (by rfl) ?_
        simp only [Act.put, List.setIfInBounds_toArray, List.set]
        refine upW_skip (by rfl) ?_
        simp only [Act.put, List.setIfInBounds_toArray, List.set]
        refine upW_skip (by rfl) ?_
        simp only [Act.put, List.setIfInBounds_toArray, List.set]
        refine upW_skip (by rfl) ?_
        simp only [Act.put, List.setIfInBounds_toArray, List.set]
        refine upW_skip (by rfl) ?_
        simp only [Act.put, List.setIfInBounds_toArray, List.set]
        refine upW_skip (by rfl) ?_
        simp only [Act.put, List.setIfInBounds_toArray, List.set]
        refine upW_skip (by rfl) ?_
        simp only [Act.put, List.setIfInBounds_toArray, List.set]
        refine upW_skip (by rfl) ?_
        simp only [Act.put, List.setIfInBounds_toArray, List.set]
        refine upW_val (by rfl) (by rfl) (by rfl) ?_
        intro K hK
        go_big_quiet_op
        refine hK _ ?_
        refine upW_val (by rfl) (by rfl) (by rfl) ?_
        intro K hK
        go_big_quiet_op
        refine hK _ ?_
        refine upW_val (by rfl) (by rfl) (by rfl) ?_
        intro K hK
        go_big_quiet_op
        refine hK _ ?_
        refine upW_val (by rfl) (by rfl) (by rfl) ?_
        intro K hK
        go_big_quiet_op
        refine hK _ ?_
        refine upW_val (by rfl) (by rfl) (by rfl) ?_
        intro K hK
        go_big_quiet_op
        refine hK _ ?_
        refine upW_val (by rfl) (by rfl) (by rfl) (fun K hK => quiet_load_row _ _ rfl M2 rfl 24 _ (0, 0) _ HM2.out Try.underlying24 rfl (sN rH3 HLH3.out) (hK _ ?_))
        simp only [Act.put, List.setIfInBounds_toArray, List.set]
        refine upW_late (by rfl) (.agg (byteVals (zerB 32)).toArray) (fun w => run_zeroN _ _ rfl w) ?_
        simp only [Act.put, List.setIfInBounds_toArray, List.set]
        refine upW_late (by rfl) (.bool true) (fun w => run_eqB _ _ _ _ 24 rfl Try.underlying24 rH3 (zerB 32) rfl rfl HLH3.out (zerB_len 32) (by kernel_rfl) true (decide_eq_true (eq_le HLH3.out (zerB_len 32) (by simp only [HVH3.out, le_zer]; exact (fRoot_none _ HIS.out)))) w) ?_
        simp only [Act.put, List.setIfInBounds_toArray, List.set]
        refine upW_val (by rfl) (by rfl) (by rfl) ?_
        intro K hK
        go_big_quiet_op
        refine hK _ ?_
        refine upW_val (by rfl) (by rfl) (by rfl) ?_
        intro K hK
        go_big_quiet_op
        refine hK _ ?_
        refine upW_val (by rfl) (by rfl) (by rfl) ?_
        intro K hK
        go_big_quiet_op
        refine hK _ ?_
        refine upW_val (by rfl) (by rfl) (by rfl) ?_
        intro K hK
        go_big_quiet_op
        refine hK _ ?_
        refine upW_val (by rfl) (by rfl) (by rfl) ?_
        intro K hK
        go_big_quiet_op
        refine hK _ ?_
        refine upW_val (by rfl) (by rfl) (by rfl) ?_
        intro K hK
        go_big_quiet_op
        refine hK _ ?_
        refine upW_val (by rfl) (by rfl) (by rfl) (fun K hK => quiet_load_row _ _ rfl M3 rfl 24 _ (0, 0) _ HM3.out Try.underlying24 rfl (sN rH5 HLH5.out) (hK _ ?_))
        simp only [Act.put, List.setIfInBounds_toArray, List.set]
        refine upW_val (by rfl) (by rfl) (by rfl) (fun K hK => quiet_load_row _ _ rfl M3 rfl 24 _ (0, 0) _ HM3.out Try.underlying24 rfl (sN rH5 HLH5.out) (hK _ ?_))
        simp only [Act.put, List.setIfInBounds_toArray, List.set]
        refine upW_call (by rfl) (by rfl) (.agg (byteVals rH12).toArray) _ rfl (by simp) (fun p => ?_) ?_
        · go_big_quiet_op
          exact ⟨_, fun q => Calls.ext_of (HQH12.out q.x), rfl⟩
        simp only [Act.put, List.setIfInBounds_toArray, List.set]
        refine upW_val (by rfl) (by rfl) (by rfl) (fun K hK => quiet_load_row _ _ rfl M0 rfl 24 _ (0, 0) _ HM0.out Try.underlying24 rfl (sN a HLA0.out) (hK _ ?_))
        simp only [Act.put, List.setIfInBounds_toArray, List.set]
        refine upW_val (by rfl) (by rfl) (by rfl) (fun K hK => quiet_load_row _ _ rfl M0 rfl 24 _ (0, 0) _ HM0.out Try.underlying24 rfl (sN a HLA0.out) (hK _ ?_))
        simp only [Act.put, List.setIfInBounds_toArray, List.set]
        refine upW_call (by rfl) (by rfl) (.agg (byteVals rH13).toArray) _ rfl (by simp) (fun p => ?_) ?_
        · go_big_quiet_op
          exact ⟨_, fun q => Calls.ext_of (HQH13.out q.x), rfl⟩
        simp only [Act.put, List.setIfInBounds_toArray, List.set]
        refine upW_late (by rfl) (.bool true) (fun w => run_eqB _ _ _ _ 24 rfl Try.underlying24 rH12 rH13 rfl rfl HLH12.out HLH13.out (by kernel_rfl) true (decide_eq_true (eq_le HLH12.out HLH13.out (by simp only [HVH4.out, HVH5.out, HVH12.out, HVH13.out]; exact (by rw [fMul_root _ (by rw [fRoot_two _ HZ.out, HIS.out]; rfl), fAdd_mod])))) w) ?_
        simp only [Act.put, List.setIfInBounds_toArray, List.set]
        refine upW_val (by rfl) (by rfl) (by rfl) ?_
        intro K hK
        go_big_quiet_op
        refine hK _ ?_
        refine upW_val (by rfl) (by rfl) (by rfl) ?_
        intro K hK
        go_big_quiet_op
        refine hK _ ?_
        refine upW_nil (fun w10 hbs => ?_)
        have HF := Lib.hid (HB.out.trans (hbs.mono (show N ≤ _ by have := HB.out.size; have := HN.out; omega)))
        clear hbs
        go_wp2
        go_ret
        exact ⟨rfl, HN.out.symm ▸ HF.out⟩
theorem fieldRoots_own : ownKnob Try.prog.godebug = none := by kernel_rfl

set_option maxRecDepth 100000 in
theorem fieldRoots_lifted (os : Os) (started : os.Started) (H : Type) (enc : TypeId × Value → H) :
    ReturnsInHanded {} Try.checked os 7 .any (Rows.fieldRootsSpec.pre6 enc Try.prog Try.f7 Rows.fieldRootsRow.domain false) (Rows.fieldRootsSpec.post enc Try.prog Try.f7 false true false false) := by
  refine returnsInHanded_of_change (C := Try.checked) fieldRoots_own started (by kernel_rfl) Try.func7
    (ChangeSpec.witness6 (enc := enc) (C := Try.checked) false ⟨#[], #[.agg (Array.replicate 32 (.int .u8 0))], []⟩ 8 (by kernel_rfl) (by kernel_rfl) (by kernel_rfl) (by kernel_rfl)) ?_
  intro W base args ds gs before hval0 hW hcnd _
  have hval : ∀ (j : Nat) t v, Try.f7.params[j]? = some t → args[j]? = some v → Value.okWide Try.prog W .any base t v := hval0
  have hW' := hW
  obtain ⟨p, q, hA0, hV, rfl, hfz, hnd⟩ := hW
  have hA : DataW.TrodAll enc Try.prog W 0 (fun _ => true) true Try.f7.params.toList args.toList ds p := hA0
  rw [Try.params7] at hA hval
  obtain ⟨v0, vs0, d0, ds0, p0, q0, hargs, rfl, rfl, h0, r0⟩ := trodAll_cons hA
  obtain ⟨rfl, rfl, rfl⟩ := trodAll_nil r0
  obtain rfl : args = #[v0] := by cases args; simp_all
  obtain ⟨rfl, rfl⟩ := trodVars_none hV
  obtain ⟨a0, hl0, rfl, rfl, rfl⟩ := open_arr8 Try.underlying23 Try.underlying5 (by kernel_rfl) (by kernel_rfl) (hval 0 23 v0 rfl rfl) h0
  clear hA0 hval0
  simp only [List.append_nil] at hW'
  refine (fieldRoots_true a0 W hl0).mono fun e W' ⟨he, bel⟩ => ?_
  subst he
  exact ⟨_, rfl, _, _, _, [], [], [], hW', trodAll_mk1 (shut_bool Try.underlying4 _), (trodAll_cons_mk (shut_arr8 Try.underlying23 Try.underlying5 (by kernel_rfl) (by kernel_rfl) a0 hl0) trodAll_mk0), rfl, bel.frame _, fun h => by cases h⟩

theorem fieldRoots_holds : Rows.FieldRootsSaid :=
  OpenClaim.holds_of_wide 7 Try.f7 rfl rfl rfl rfl rfl rfl rfl ⟨rfl, rfl, rfl, rfl, rfl⟩ rfl rfl rfl rfl rfl (by kernel_rfl) Try.func7 (by kernel_rfl)
    (of_decide_eq_true (by kernel_rfl)) (by unfold Func.isWrapper; first | (rw [if_pos (by decide +kernel)]; kernel_rfl) | (rw [if_neg (by decide +kernel)]; exact ⟨rfl, rfl⟩))
    (fun os started H enc _ => fieldRoots_lifted os started H enc)
#print axioms fieldRoots_holds

end Go.Proofs.Ytinacaflhphmkaa
