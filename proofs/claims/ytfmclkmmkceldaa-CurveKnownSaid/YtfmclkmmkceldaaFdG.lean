/-
  Words of package field: minus, less, num.
  Conditions: none.
-/
import Derived.Test.YtfmclkmmkceldaaFdD
namespace Go.Proofs.Ytfmclkmmkceldaa
open Go.RowKit

set_option maxRecDepth 100000 in
set_option maxHeartbeats 1000000 in
theorem lessC_any (n m : Nat) (w : World) (hn : n < 115792089237316195423570985008687907853269984665640564039457584007913129639936) (hm : m < 115792089237316195423570985008687907853269984665640564039457584007913129639936) :
    Calls Try.prog 98 #[.agg (nums .u64 (w4 n)), .agg (nums .u64 (w4 m))] w fun e w' => e = .returned (.bool (decide (n < m))) ∧ Below w.heap.size w w' := by
  have HSN := Lib.hid (sC n)
  have HSM := Lib.hid (sC m)
  have hz := zC
  by_cases hlt : n < m
  · obtain ⟨r, hr⟩ : ∃ r, n + 115792089237316195423570985008687907853269984665640564039457584007913129639936 - m = r := ⟨_, rfl⟩
    have HQ := Lib.hid (fun w => takeC_any n m r 1 w hn hm (by omega) (by omega) (by decide))
    have HSR := Lib.hid (sC r)
    have HLT := Lib.hid hlt
    clear hr hlt hn hm
    go_enter Try.func98, Try.ntmps98
    go_upto_region 1 with fail
    generalize hW1 : World.alloc _ _ = W1
    obtain ⟨N, hN⟩ : ∃ n, w.heap.size = n := ⟨_, rfl⟩
    have HR1 := Lib.hid (show RW W1 N .u64 70 (w4 n) by subst hW1; rw [← hN]; exact (alloc2_at w _ _).1)
    have HR2 := Lib.hid (show RW W1 (N + 1) .u64 70 (w4 m) by subst hW1; rw [← hN]; exact (alloc2_at w _ _).2)
    have HB1 := Lib.hid (show Below N w W1 by subst hW1; rw [← hN]; exact ((Below.refl _ w).alloc (Nat.le_refl _) _).alloc (by simp) _)
    have HNL := Lib.hid HR2.out.lt
    have HN := Lib.hid hN
    rw [hN]
    clear hW1 hN
    go_wp2_with (first
      | (refine wpList_load_row rfl 70 _ rfl N rfl 70 (nums .u64 (w4 n)) (0, 0) _ HR1.out Try.underlying70 rfl HSN.out ?_)
      | (refine wpList_load_row rfl 70 _ rfl (N + 1) rfl 70 (nums .u64 (w4 m)) (0, 0) _ HR2.out Try.underlying70 rfl HSM.out ?_)
      )
    refine (HQ.out _).mono ?_
    rintro e w2 ⟨rfl, hb2⟩
    have HB2 := Lib.hid hb2
    clear hb2
    go_wp2_with (refine wpList_store_row rfl 70 _ _ rfl w2.heap.size (nums .u64 (w4 r)) rfl rfl 70 _ (Go.heap_alloc_new _ _) HSR.out ?hold (nums_one _ _) (Stop.out ?_))
    case hold => rw [size_nums, size_nums, zer_len, w4_len]
    generalize hWS : World.setRow _ _ _ = ws
    obtain ⟨M, hM⟩ : ∃ n, w2.heap.size = n := ⟨_, rfl⟩
    have hMN : N + 1 < M := by rw [← hM]; have := HB2.out.size; have := HNL.out; omega
    have HD := Lib.hid (show RW ws M .u64 70 (w4 r) by subst hWS; rw [← hM]; exact setRow_heap _ _ _ _ _ _ (Go.heap_alloc_new _ _))
    have HBS := Lib.hid (show Below N w ws by subst hWS; rw [hM]; exact Below.setRow ((HB1.out.trans (HB2.out.mono (by have := HNL.out; omega))).alloc (by omega) _) (by omega) _)
    rw [hM]
    clear hWS hM HB1 HB2 HR1 HR2
    refine ⟨?_⟩
    go_wp2
    go_ret
    exact ⟨congrArg (fun b => Ending.returned (Value.bool b)) (decide_eq_true HLT.out).symm, HN.out.symm ▸ HBS.out⟩
  · obtain ⟨r, hr⟩ : ∃ r, n - m = r := ⟨_, rfl⟩
    have HQ := Lib.hid (fun w => takeC_any n m r 0 w hn hm (by omega) (by omega) (by decide))
    have HSR := Lib.hid (sC r)
    have HLT := Lib.hid hlt
    clear hr hlt hn hm
    go_enter Try.func98, Try.ntmps98
    go_upto_region 1 with fail
    generalize hW1 : World.alloc _ _ = W1
    obtain ⟨N, hN⟩ : ∃ n, w.heap.size = n := ⟨_, rfl⟩
    have HR1 := Lib.hid (show RW W1 N .u64 70 (w4 n) by subst hW1; rw [← hN]; exact (alloc2_at w _ _).1)
    have HR2 := Lib.hid (show RW W1 (N + 1) .u64 70 (w4 m) by subst hW1; rw [← hN]; exact (alloc2_at w _ _).2)
    have HB1 := Lib.hid (show Below N w W1 by subst hW1; rw [← hN]; exact ((Below.refl _ w).alloc (Nat.le_refl _) _).alloc (by simp) _)
    have HNL := Lib.hid HR2.out.lt
    have HN := Lib.hid hN
    rw [hN]
    clear hW1 hN
    go_wp2_with (first
      | (refine wpList_load_row rfl 70 _ rfl N rfl 70 (nums .u64 (w4 n)) (0, 0) _ HR1.out Try.underlying70 rfl HSN.out ?_)
      | (refine wpList_load_row rfl 70 _ rfl (N + 1) rfl 70 (nums .u64 (w4 m)) (0, 0) _ HR2.out Try.underlying70 rfl HSM.out ?_)
      )
    refine (HQ.out _).mono ?_
    rintro e w2 ⟨rfl, hb2⟩
    have HB2 := Lib.hid hb2
    clear hb2
    go_wp2_with (refine wpList_store_row rfl 70 _ _ rfl w2.heap.size (nums .u64 (w4 r)) rfl rfl 70 _ (Go.heap_alloc_new _ _) HSR.out ?hold (nums_one _ _) (Stop.out ?_))
    case hold => rw [size_nums, size_nums, zer_len, w4_len]
    generalize hWS : World.setRow _ _ _ = ws
    obtain ⟨M, hM⟩ : ∃ n, w2.heap.size = n := ⟨_, rfl⟩
    have hMN : N + 1 < M := by rw [← hM]; have := HB2.out.size; have := HNL.out; omega
    have HD := Lib.hid (show RW ws M .u64 70 (w4 r) by subst hWS; rw [← hM]; exact setRow_heap _ _ _ _ _ _ (Go.heap_alloc_new _ _))
    have HBS := Lib.hid (show Below N w ws by subst hWS; rw [hM]; exact Below.setRow ((HB1.out.trans (HB2.out.mono (by have := HNL.out; omega))).alloc (by omega) _) (by omega) _)
    rw [hM]
    clear hWS hM HB1 HB2 HR1 HR2
    refine ⟨?_⟩
    go_wp2
    go_ret
    exact ⟨congrArg (fun b => Ending.returned (Value.bool b)) (decide_eq_false HLT.out).symm, HN.out.symm ▸ HBS.out⟩
set_option maxRecDepth 100000 in
set_option maxHeartbeats 1000000 in
theorem minusC_any (n m : Nat) (w : World) (hn : n < 57896044618658097711785492504343953926634992332820282019728792003956564819949) (hm : m < 57896044618658097711785492504343953926634992332820282019728792003956564819949) :
    Calls Try.prog 62 #[.agg (nums .u64 (w4 n)), .agg (nums .u64 (w4 m))] w fun e w' => e = .returned (.agg (nums .u64 (w4 ((n + 57896044618658097711785492504343953926634992332820282019728792003956564819949 - m) % 57896044618658097711785492504343953926634992332820282019728792003956564819949)))) ∧ Below w.heap.size w w' := by
  have HSN := Lib.hid (sC n)
  have HSM := Lib.hid (sC m)
  have hz := zC
  by_cases hlt : n < m
  · obtain ⟨r, hr⟩ : ∃ r, n + 115792089237316195423570985008687907853269984665640564039457584007913129639936 - m = r := ⟨_, rfl⟩
    obtain ⟨x, hx⟩ : ∃ x, n + 57896044618658097711785492504343953926634992332820282019728792003956564819949 - m = x := ⟨_, rfl⟩
    have HQ := Lib.hid (fun w => takeC_any n m r 1 w (by omega) (by omega) (by omega) (by omega) (by decide))
    have HP := Lib.hid (fun w => primeC_any w)
    have HA := Lib.hid (fun w => plusC_any r 57896044618658097711785492504343953926634992332820282019728792003956564819949 x 1 w (by omega) (by decide) (by omega) (by omega))
    have HX := Lib.hid (show (n + 57896044618658097711785492504343953926634992332820282019728792003956564819949 - m) % 57896044618658097711785492504343953926634992332820282019728792003956564819949 = x by omega)
    have HSR := Lib.hid (sC r)
    have HSX := Lib.hid (sC x)
    clear hr hx hlt hn hm
    go_enter Try.func62, Try.ntmps62
    go_upto_region 1 with fail
    generalize hW1 : World.alloc _ _ = W1
    obtain ⟨N, hN⟩ : ∃ n, w.heap.size = n := ⟨_, rfl⟩
    have HR1 := Lib.hid (show RW W1 N .u64 70 (w4 n) by subst hW1; rw [← hN]; exact (alloc3_at w _ _ _).1)
    have HR2 := Lib.hid (show RW W1 (N + 1) .u64 70 (w4 m) by subst hW1; rw [← hN]; exact (alloc3_at w _ _ _).2.1)
    have HR3 := Lib.hid (show RW W1 (N + 1 + 1) .u64 70 (zer 4) by subst hW1; rw [← hN]; exact (alloc3_at w _ _ _).2.2)
    have HB1 := Lib.hid (show Below N w W1 by subst hW1; rw [← hN]; exact Below.alloc3 w _ _ _)
    have HNL := Lib.hid HR3.out.lt
    have HN := Lib.hid hN
    rw [hN]
    clear hW1 hN
    go_wp2_with (first
      | (refine wpList_load_row rfl 70 _ rfl N rfl 70 (nums .u64 (w4 n)) (0, 0) _ HR1.out Try.underlying70 rfl HSN.out ?_)
      | (refine wpList_load_row rfl 70 _ rfl (N + 1) rfl 70 (nums .u64 (w4 m)) (0, 0) _ HR2.out Try.underlying70 rfl HSM.out ?_)
      )
    refine (HQ.out _).mono ?_
    rintro e w2 ⟨rfl, hb2⟩
    have HB2 := Lib.hid hb2
    clear hb2
    go_wp2_with (refine wpList_store_row rfl 70 _ _ rfl w2.heap.size (nums .u64 (w4 r)) rfl rfl 70 _ (Go.heap_alloc_new _ _) HSR.out ?hold (nums_one _ _) (Stop.out ?_))
    case hold => rw [size_nums, size_nums, zer_len, w4_len]
    generalize hWS : World.setRow _ _ _ = ws
    obtain ⟨M, hM⟩ : ∃ n, w2.heap.size = n := ⟨_, rfl⟩
    have hMN : N + 1 + 1 < M := by rw [← hM]; have := HB2.out.size; have := HNL.out; omega
    have HD := Lib.hid (show RW ws M .u64 70 (w4 r) by subst hWS; rw [← hM]; exact setRow_heap _ _ _ _ _ _ (Go.heap_alloc_new _ _))
    have HBS := Lib.hid (show Below N w ws by subst hWS; rw [hM]; exact Below.setRow ((HB1.out.trans (HB2.out.mono (by have := HNL.out; omega))).alloc (by omega) _) (by omega) _)
    have HO3 := Lib.hid (show RW ws (N + 1 + 1) .u64 70 (zer 4) by subst hWS; exact (HR3.out.ext HB2.out).other ((setRow_other _ _ _ _ (by omega)).trans (Go.heap_alloc_old _ _ (HR3.out.ext HB2.out).lt)))
    rw [hM]
    clear hWS hM HB1 HB2 HR1 HR2
    refine ⟨?_⟩
    go_wp2_with fail
    refine wp_region_up 6 5 (by kernel_rfl) (by kernel_rfl) (fun _ _ dst _ _ h => by cases dst <;> exact h) ?_
    simp only [List.take_succ_cons, List.take_zero, List.drop_succ_cons, List.drop_zero]
    refine upW_val (by rfl) (by rfl) (by rfl) (fun K hK => quiet_load_row _ _ rfl M rfl 70 _ (0, 0) _ HD.out Try.underlying70 rfl HSR.out (hK _ ?_))
    simp only [Act.put, List.setIfInBounds_toArray, List.set]
    refine upW_call (by rfl) (by rfl) (.agg (nums .u64 (w4 57896044618658097711785492504343953926634992332820282019728792003956564819949))) _ rfl (by simp) (fun p => ?_) ?_
    · go_big_quiet_op
      exact ⟨_, fun q => Calls.ext_of (HP.out q.x), rfl⟩
    simp only [Act.put, List.setIfInBounds_toArray, List.set]
    refine upW_call (by rfl) (by rfl) (.tuple #[.agg (nums .u64 (w4 x)), .int .u64 1]) _ rfl (by simp) (fun p => ?_) ?_
    · go_big_quiet_op
      exact ⟨_, fun q => Calls.ext_of (HA.out q.x), rfl⟩
    simp only [Act.put, List.setIfInBounds_toArray, List.set]
    refine upW_val (by rfl) (by rfl) (by rfl) ?_
    intro K hK
    go_big_quiet_op
    refine hK _ ?_
    refine upW_late (by rfl) (.agg (nums .u64 (w4 x))) (fun _ => rfl) ?_
    simp only [Act.put, List.setIfInBounds_toArray, List.set]
    refine upW_late (by rfl) (.int .u64 1) (fun _ => rfl) ?_
    simp only [Act.put, List.setIfInBounds_toArray, List.set]
    refine upW_nil (fun wy hby => ?_)
    have HDY := Lib.hid (HD.out.ext hby)
    have HOY := Lib.hid (HO3.out.ext hby)
    have HBY := Lib.hid (show Below N w wy from HBS.out.trans (hby.mono (by have := HO3.out.lt; omega)))
    have HO1 := Lib.hid (show (nums .u64 (w4 r)).size = (nums .u64 (w4 x)).size by rw [size_nums, size_nums, w4_len, w4_len])
    have HO2 := Lib.hid (show (nums .u64 (zer 4)).size = (nums .u64 (w4 x)).size by rw [size_nums, size_nums, zer_len, w4_len])
    clear hby HD HO3 HBS
    go_wp2_with (refine wpList_store_row rfl 70 _ _ rfl M (nums .u64 (w4 x)) rfl rfl 70 _ HDY.out HSX.out HO1.out (nums_one _ _) (Stop.out ?_))
    generalize hWS : World.setRow _ _ _ = ws'
    have HE := Lib.hid (show RW ws' M .u64 70 (w4 x) by subst hWS; exact setRow_heap _ _ _ _ _ _ HDY.out)
    have HO4 := Lib.hid (show RW ws' (N + 1 + 1) .u64 70 (zer 4) by subst hWS; exact HOY.out.other (setRow_other _ _ _ _ (by omega)))
    have HB4 := Lib.hid (show Below N w ws' by subst hWS; exact Below.setRow HBY.out (by omega) _)
    clear hWS HDY HOY HBY
    refine ⟨?_⟩
    go_wp2_with (first
      | (refine wpList_load_row rfl 70 _ rfl M rfl 70 (nums .u64 (w4 x)) (0, 0) _ HE.out Try.underlying70 rfl HSX.out ?_)
      | (refine wpList_store_row rfl 70 _ _ rfl (N + 1 + 1) (nums .u64 (w4 x)) rfl rfl 70 _ HO4.out HSX.out HO2.out (nums_one _ _) ?_)
      )
    refine bodyPost_ret (results_cell_row (by rfl) _ _ (N + 1 + 1) 70 (nums .u64 (w4 x)) (0, 0) _ (by rfl) (setRow_heap _ _ _ _ _ _ HO4.out) Try.underlying70 rfl HSX.out) rfl ⟨by rw [HX.out], ?_⟩
    rw [HN.out]
    exact Below.setRow HB4.out (by omega) _
  · obtain ⟨r, hr⟩ : ∃ r, n - m = r := ⟨_, rfl⟩
    have HQ := Lib.hid (fun w => takeC_any n m r 0 w (by omega) (by omega) (by omega) (by omega) (by decide))
    have HX := Lib.hid (show (n + 57896044618658097711785492504343953926634992332820282019728792003956564819949 - m) % 57896044618658097711785492504343953926634992332820282019728792003956564819949 = r by omega)
    have HSR := Lib.hid (sC r)
    have HO2 := Lib.hid (show (nums .u64 (zer 4)).size = (nums .u64 (w4 r)).size by rw [size_nums, size_nums, zer_len, w4_len])
    clear hr hlt hn hm
    go_enter Try.func62, Try.ntmps62
    go_upto_region 1 with fail
    generalize hW1 : World.alloc _ _ = W1
    obtain ⟨N, hN⟩ : ∃ n, w.heap.size = n := ⟨_, rfl⟩
    have HR1 := Lib.hid (show RW W1 N .u64 70 (w4 n) by subst hW1; rw [← hN]; exact (alloc3_at w _ _ _).1)
    have HR2 := Lib.hid (show RW W1 (N + 1) .u64 70 (w4 m) by subst hW1; rw [← hN]; exact (alloc3_at w _ _ _).2.1)
    have HR3 := Lib.hid (show RW W1 (N + 1 + 1) .u64 70 (zer 4) by subst hW1; rw [← hN]; exact (alloc3_at w _ _ _).2.2)
    have HB1 := Lib.hid (show Below N w W1 by subst hW1; rw [← hN]; exact Below.alloc3 w _ _ _)
    have HNL := Lib.hid HR3.out.lt
    have HN := Lib.hid hN
    rw [hN]
    clear hW1 hN
    go_wp2_with (first
      | (refine wpList_load_row rfl 70 _ rfl N rfl 70 (nums .u64 (w4 n)) (0, 0) _ HR1.out Try.underlying70 rfl HSN.out ?_)
      | (refine wpList_load_row rfl 70 _ rfl (N + 1) rfl 70 (nums .u64 (w4 m)) (0, 0) _ HR2.out Try.underlying70 rfl HSM.out ?_)
      )
    refine (HQ.out _).mono ?_
    rintro e w2 ⟨rfl, hb2⟩
    have HB2 := Lib.hid hb2
    clear hb2
    go_wp2_with (refine wpList_store_row rfl 70 _ _ rfl w2.heap.size (nums .u64 (w4 r)) rfl rfl 70 _ (Go.heap_alloc_new _ _) HSR.out ?hold (nums_one _ _) (Stop.out ?_))
    case hold => rw [size_nums, size_nums, zer_len, w4_len]
    generalize hWS : World.setRow _ _ _ = ws
    obtain ⟨M, hM⟩ : ∃ n, w2.heap.size = n := ⟨_, rfl⟩
    have hMN : N + 1 + 1 < M := by rw [← hM]; have := HB2.out.size; have := HNL.out; omega
    have HD := Lib.hid (show RW ws M .u64 70 (w4 r) by subst hWS; rw [← hM]; exact setRow_heap _ _ _ _ _ _ (Go.heap_alloc_new _ _))
    have HBS := Lib.hid (show Below N w ws by subst hWS; rw [hM]; exact Below.setRow ((HB1.out.trans (HB2.out.mono (by have := HNL.out; omega))).alloc (by omega) _) (by omega) _)
    have HO3 := Lib.hid (show RW ws (N + 1 + 1) .u64 70 (zer 4) by subst hWS; exact (HR3.out.ext HB2.out).other ((setRow_other _ _ _ _ (by omega)).trans (Go.heap_alloc_old _ _ (HR3.out.ext HB2.out).lt)))
    rw [hM]
    clear hWS hM HB1 HB2 HR1 HR2
    refine ⟨?_⟩
    go_wp2_with (first
      | (refine wpList_load_row rfl 70 _ rfl M rfl 70 (nums .u64 (w4 r)) (0, 0) _ HD.out Try.underlying70 rfl HSR.out ?_)
      | (refine wpList_store_row rfl 70 _ _ rfl (N + 1 + 1) (nums .u64 (w4 r)) rfl rfl 70 _ HO3.out HSR.out HO2.out (nums_one _ _) ?_)
      )
    refine bodyPost_ret (results_cell_row (by rfl) _ _ (N + 1 + 1) 70 (nums .u64 (w4 r)) (0, 0) _ (by rfl) (setRow_heap _ _ _ _ _ _ HO3.out) Try.underlying70 rfl HSR.out) rfl ⟨by rw [HX.out], ?_⟩
    rw [HN.out]
    exact Below.setRow HBS.out (by omega) _
/-- Byte i of a number. -/
def byt (n i : Nat) : UInt8 := UInt8.ofNat (n / 256 ^ i % 256)
theorem b32_byt (n : Nat) : b32 n = (List.range 32).map (byt n) := by
  apply List.ext_getElem?
  intro i
  by_cases hi : i < 32
  · have h := b32_get n i hi
    rw [List.getD_eq_getElem?_getD] at h
    rw [List.getElem?_eq_getElem (by rw [b32_len]; exact hi)] at h ⊢
    simp only [Option.getD_some] at h
    rw [h]
    simp [byt, hi]
  · rw [List.getElem?_eq_none (by rw [b32_len]; omega), List.getElem?_eq_none (by simp; omega)]
theorem zN (w : World) : (zeroValue 26).run Try.prog w = .ok (.agg (byteVals (zerB 32)).toArray) w :=
  (zero_of_info (P := Try.prog) (t := 26) (v := .agg (byteVals (zerB 32)).toArray) (n := 32) (by kernel_rfl)).1 w
theorem sN (l : List UInt8) (h : l.length = 32) : (Try.prog.info? 26).map (·.size) = some (byteVals l).toArray.size := by rw [size_byteVals, h]; kernel_rfl
set_option maxRecDepth 100000 in
set_option maxHeartbeats 1000000 in
theorem numC_any (n : Nat) (w : World) :
    Calls Try.prog 63 #[.agg (nums .u64 (w4 n))] w fun e w' => e = .returned (.agg (byteVals (b32 n)).toArray) ∧ Below w.heap.size w w' := by
  have HSN := Lib.hid (sC n)
  have hz := zN
  go_enter Try.func63, Try.ntmps63
  go_wp2_with (refine wpList_load_row rfl 70 _ rfl w.heap.size rfl 70 (nums .u64 (w4 n)) (0, 0) _ (alloc3_at w _ _ _).1 Try.underlying70 rfl HSN.out ?_)
  generalize hW1 : World.alloc _ _ = W1
  obtain ⟨N, hN⟩ : ∃ n, w.heap.size = n := ⟨_, rfl⟩
  have HR2 := Lib.hid (show BT W1 (N + 1) 26 (zerB 32) by subst hW1; rw [← hN]; exact (alloc3_at w _ _ _).2.1)
  have HR3 := Lib.hid (show BT W1 (N + 1 + 1) 26 ((List.range 0).map (byt n) ++ zerB (32 - 0)) by subst hW1; rw [← hN]; exact (alloc3_at w _ _ _).2.2)
  have HB1 := Lib.hid (show Below N w W1 by subst hW1; rw [← hN]; exact Below.alloc3 w _ _ _)
  have HN := Lib.hid hN
  rw [hN]
  clear hW1 hN hz
  go_loopw [8] (fun iv wr => ∃ (k : Nat), iv = .int .i64 k ∧ k ≤ 4 ∧ BT wr (N + 1) 26 (zerB 32) ∧ BT wr (N + 1 + 1) 26 ((List.range (8 * k)).map (byt n) ++ zerB (32 - 8 * k)) ∧ Below N w wr) (fun i _ => 4 - (intOf i).toNat)
  case atStart => exact ⟨0, rfl, Nat.zero_le _, HR2.out, HR3.out, HB1.out⟩
  case round =>
    obtain ⟨k, rfl, hk, hr2, hr3, hbel⟩ := hrel
    have HA2 := Lib.hid hr2
    have HA3 := Lib.hid hr3
    have HBE := Lib.hid hbel
    clear hr2 hr3 hbel HR2 HR3 HB1
    by_cases hlt : k < 4
    · have hlt' : (k : Int) < 4 := by omega
      have HIX := Lib.hid (fun w => index_arr (P := Try.prog) w 70 29 4 (nums .u64 (w4 n)) .i64 k (.int .u64 ((wd n k : Nat) : Int)) Try.underlying70 (by kernel_rfl) (by kernel_rfl) hlt (by
        have := w4_get n k hlt
        rw [← this]
        simp [nums, List.getElem?_eq_getElem (show k < (w4 n).length by rw [w4_len]; exact hlt)]))
      have HWL := Lib.hid (show wd n k < 18446744073709551616 from Nat.mod_lt _ (by decide))
      have HBY := Lib.hid (fun j (hj : j < 8) => wd_byte n k j hj)
      have hix := HIX.out
      generalize wd n k = x at hix HWL HBY
      clear HIX
      obtain ⟨e, he⟩ : ∃ e, 8 * k = e := ⟨_, rfl⟩
      rw [he] at HA3 HBY
      have i1 : (8 : Int) * (k : Int) = (e : Int) := by omega
      have i2 : IntKind.i64.wrap (e : Int) = (e : Int) := by rw [IntKind.wrap_i64]; omega
      have HE := Lib.hid he
      have hle : e ≤ 24 := by omega
      clear he
      go_wp2_with fail
      go_loopw [12] (fun iv wq => ∃ (j : Nat), iv = .int .i64 j ∧ j ≤ 8 ∧ BT wq (N + 1) 26 (zerB 32) ∧ BT wq (N + 1 + 1) 26 ((List.range (e + j)).map (byt n) ++ zerB (32 - (e + j))) ∧ Below N w wq) (fun i _ => 8 - (intOf i).toNat)
      case atStart => exact ⟨0, rfl, Nat.zero_le _, HA2.out, HA3.out, HBE.out⟩
      case round =>
        obtain ⟨j, rfl, hj, hr2, hr3, hbel⟩ := hrel
        have HC2 := Lib.hid hr2
        have HC3 := Lib.hid hr3
        have HCE := Lib.hid hbel
        clear hr2 hr3 hbel HA2 HA3 HBE
        by_cases hlt2 : j < 8
        · have hlt2' : (j : Int) < 8 := by omega
          obtain ⟨g, hg⟩ : ∃ g, 8 * j = g := ⟨_, rfl⟩
          have j1 : (8 : Int) * (j : Int) = (g : Int) := by omega
          have j2 : IntKind.i64.wrap (g : Int) = (g : Int) := by rw [IntKind.wrap_i64]; omega
          have j3 : IntKind.i64.wrap ((e : Int) + (j : Int)) = (e : Int) + (j : Int) := by rw [IntKind.wrap_i64]; omega
          have j4 : (0 : Int) ≤ (e : Int) + (j : Int) := by omega
          have j5 : (e : Int) + (j : Int) < 32 := by omega
          have j6 : ((e : Int) + (j : Int)).toNat = e + j := by omega
          have h8 : IntKind.u8.wrap ((x : Int) / 2 ^ g) = ((byt n (e + j)).toNat : Int) := by
            have h := HBY.out j hlt2
            rw [hg] at h
            rw [show (x : Int) / 2 ^ g = ((x / 2 ^ g : Nat) : Int) by simp, IntKind.wrap_u8]
            unfold byt
            rw [UInt8.toNat_ofNat', Nat.mod_eq_of_lt (Nat.mod_lt _ (by decide)), ← h]
            omega
          have HS := Lib.hid (show ((List.range (e + j)).map (byt n) ++ zerB (32 - (e + j))).set (e + j) (byt n (e + j)) = (List.range (e + (j + 1))).map (byt n) ++ zerB (32 - (e + (j + 1))) by
            rw [show 32 - (e + j) = (32 - (e + (j + 1))) + 1 by omega]
            exact fill_set (byt n) 0 (e + j) (32 - (e + (j + 1))))
          obtain ⟨z, hz⟩ : ∃ z, byt n (e + j) = z := ⟨_, rfl⟩
          rw [hz] at h8 HS
          have f3 := HC3.out.frozen (e + j)
          have c3 := HC3.out.cell (i := e + j) (by simp only [List.length_append, List.length_map, List.length_range, zerB_len]; omega)
          generalize ((List.range (e + j)).map (byt n) ++ zerB (32 - (e + j))).getD (e + j) 0 = oo at c3
          clear hz hg
          go_wp2_with fail
          go_roundw
          case rel => exact ⟨j + 1, rfl, hlt2, HC2.out.other (setCell_other _ (by omega)), by rw [← HS.out]; exact HC3.out.set z, HCE.out.setCell (p := ⟨N + 1 + 1, e + j, none⟩) (by show N ≤ N + 1 + 1; omega) _⟩
          case measure => simp [intOf]; omega
        · have hlt2' : ¬ (j : Int) < 8 := by omega
          have HC4 := Lib.hid (show BT wr (N + 1 + 1) 26 ((List.range (8 * (k + 1))).map (byt n) ++ zerB (32 - 8 * (k + 1))) by
            have := HC3.out
            rw [show e + j = 8 * (k + 1) by have := HE.out; omega] at this
            exact this)
          clear HC3
          go_wp2_with fail
          go_roundw
          case rel => exact ⟨k + 1, rfl, hlt, HC2.out, HC4.out, HCE.out⟩
          case measure => simp [intOf]; omega
    · have hlt' : ¬ (k : Int) < 4 := by omega
      have HSB := Lib.hid (sN (b32 n) (b32_len n))
      have HO := Lib.hid (show (byteVals (zerB 32)).toArray.size = (byteVals (b32 n)).toArray.size by rw [size_byteVals, size_byteVals, zerB_len, b32_len])
      have h3 := HA3.out
      rw [show 8 * k = 32 by omega, ← b32_byt, show zerB (32 - 32) = [] from rfl, List.append_nil] at h3
      have H3 := Lib.hid h3
      clear h3 HA3
      go_wp2_with (first
        | (refine wpList_load_row rfl 26 _ rfl (N + 1 + 1) rfl 26 ((byteVals (b32 n)).toArray) (0, 0) _ H3.out Try.underlying26 rfl HSB.out ?_)
        | (refine wpList_store_row rfl 26 _ _ rfl (N + 1) ((byteVals (b32 n)).toArray) rfl rfl 26 _ HA2.out HSB.out HO.out (byteVals_one _) ?_)
        )
      refine bodyPost_ret (results_cell_row (by rfl) _ _ (N + 1) 26 ((byteVals (b32 n)).toArray) (0, 0) _ (by rfl) (setRow_heap _ _ _ _ _ _ HA2.out) Try.underlying26 rfl HSB.out) rfl ⟨rfl, ?_⟩
      rw [HN.out]
      exact Below.setRow HBE.out (by omega) _
end Go.Proofs.Ytfmclkmmkceldaa
