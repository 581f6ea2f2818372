/-
  The document's words: sub, add, wide, mul.
  Conditions: none.
-/
import Derived.Test.YtfmclkmmkceldaaFdRa
namespace Go.Proofs.Ytfmclkmmkceldaa
open Go.RowKit

set_option maxRecDepth 100000 in
set_option maxHeartbeats 1000000 in
theorem subR_any (n m : Nat) (w : World) (hn : n < 57896044618658097711785492504343953926634992332820282019728792003956564819949) (hm : m < 57896044618658097711785492504343953926634992332820282019728792003956564819949) :
    Calls Try.prog 81 #[.agg (nums .u64 (w4 n)), .agg (nums .u64 (w4 m))] w fun e w' => e = .returned (.agg (nums .u64 (w4 ((n + 57896044618658097711785492504343953926634992332820282019728792003956564819949 - m) % 57896044618658097711785492504343953926634992332820282019728792003956564819949)))) ∧ Below w.heap.size w w' := by
  have HSN := Lib.hid (sR n)
  have HSM := Lib.hid (sR m)
  have hz := zR
  by_cases hlt : n < m
  · obtain ⟨r, hr⟩ : ∃ r, n + 115792089237316195423570985008687907853269984665640564039457584007913129639936 - m = r := ⟨_, rfl⟩
    obtain ⟨x, hx⟩ : ∃ x, n + 57896044618658097711785492504343953926634992332820282019728792003956564819949 - m = x := ⟨_, rfl⟩
    have HQ := Lib.hid (fun w => takeR_any n m r 1 w (by omega) (by omega) (by omega) (by omega) (by decide))
    have HP := Lib.hid (fun w => primeR_any w)
    have HA := Lib.hid (fun w => plusR_any r 57896044618658097711785492504343953926634992332820282019728792003956564819949 x 1 w (by omega) (by decide) (by omega) (by omega))
    have HX := Lib.hid (show (n + 57896044618658097711785492504343953926634992332820282019728792003956564819949 - m) % 57896044618658097711785492504343953926634992332820282019728792003956564819949 = x by omega)
    have HSR := Lib.hid (sR r)
    have HSX := Lib.hid (sR x)
    clear hr hx hlt hn hm
    go_enter Try.func81, Try.ntmps81
    go_upto_region 1 with fail
    generalize hW1 : World.alloc _ _ = W1
    obtain ⟨N, hN⟩ : ∃ n, w.heap.size = n := ⟨_, rfl⟩
    have HR1 := Lib.hid (show RW W1 N .u64 86 (w4 n) by subst hW1; rw [← hN]; exact (alloc3_at w _ _ _).1)
    have HR2 := Lib.hid (show RW W1 (N + 1) .u64 86 (w4 m) by subst hW1; rw [← hN]; exact (alloc3_at w _ _ _).2.1)
    have HR3 := Lib.hid (show RW W1 (N + 1 + 1) .u64 86 (zer 4) by subst hW1; rw [← hN]; exact (alloc3_at w _ _ _).2.2)
    have HB1 := Lib.hid (show Below N w W1 by subst hW1; rw [← hN]; exact Below.alloc3 w _ _ _)
    have HNL := Lib.hid HR3.out.lt
    have HN := Lib.hid hN
    rw [hN]
    clear hW1 hN
    go_wp2_with (first
      | (refine wpList_load_row rfl 86 _ rfl N rfl 86 (nums .u64 (w4 n)) (0, 0) _ HR1.out Try.underlying86 rfl HSN.out ?_)
      | (refine wpList_load_row rfl 86 _ rfl (N + 1) rfl 86 (nums .u64 (w4 m)) (0, 0) _ HR2.out Try.underlying86 rfl HSM.out ?_)
      )
    refine (HQ.out _).mono ?_
    rintro e w2 ⟨rfl, hb2⟩
    have HB2 := Lib.hid hb2
    clear hb2
    go_wp2_with (refine wpList_store_row rfl 86 _ _ rfl w2.heap.size (nums .u64 (w4 r)) rfl rfl 86 _ (Go.heap_alloc_new _ _) HSR.out ?hold (nums_one _ _) (Stop.out ?_))
    case hold => rw [size_nums, size_nums, zer_len, w4_len]
    generalize hWS : World.setRow _ _ _ = ws
    obtain ⟨M, hM⟩ : ∃ n, w2.heap.size = n := ⟨_, rfl⟩
    have hMN : N + 1 + 1 < M := by rw [← hM]; have := HB2.out.size; have := HNL.out; omega
    have HD := Lib.hid (show RW ws M .u64 86 (w4 r) by subst hWS; rw [← hM]; exact setRow_heap _ _ _ _ _ _ (Go.heap_alloc_new _ _))
    have HBS := Lib.hid (show Below N w ws by subst hWS; rw [hM]; exact Below.setRow ((HB1.out.trans (HB2.out.mono (by have := HNL.out; omega))).alloc (by omega) _) (by omega) _)
    have HO3 := Lib.hid (show RW ws (N + 1 + 1) .u64 86 (zer 4) by subst hWS; exact (HR3.out.ext HB2.out).other ((setRow_other _ _ _ _ (by omega)).trans (Go.heap_alloc_old _ _ (HR3.out.ext HB2.out).lt)))
    rw [hM]
    clear hWS hM HB1 HB2 HR1 HR2
    refine ⟨?_⟩
    go_wp2_with fail
    refine wp_region_up 6 5 (by kernel_rfl) (by kernel_rfl) (fun _ _ dst _ _ h => by cases dst <;> exact h) ?_
    simp only [List.take_succ_cons, List.take_zero, List.drop_succ_cons, List.drop_zero]
    refine upW_val (by rfl) (by rfl) (by rfl) (fun K hK => quiet_load_row _ _ rfl M rfl 86 _ (0, 0) _ HD.out Try.underlying86 rfl HSR.out (hK _ ?_))
    simp only [Act.put, List.setIfInBounds_toArray, List.set]
    refine upW_call (by rfl) (by rfl) (.agg (nums .u64 (w4 57896044618658097711785492504343953926634992332820282019728792003956564819949))) _ rfl (by simp) (fun p => ?_) ?_
    · go_big_quiet_op
      exact ⟨_, fun q => Calls.ext_of (HP.out q.x), rfl⟩
    simp only [Act.put, List.setIfInBounds_toArray, List.set]
    refine upW_call (by rfl) (by rfl) (.tuple #[.agg (nums .u64 (w4 x)), .int .u64 1]) _ rfl (by simp) (fun p => ?_) ?_
    · go_big_quiet_op
      exact ⟨_, fun q => Calls.ext_of (HA.out q.x), rfl⟩
    simp only [Act.put, List.setIfInBounds_toArray, List.set]
    refine upW_val (by rfl) (by rfl) (by rfl) ?_
    intro K hK
    go_big_quiet_op
    refine hK _ ?_
    refine upW_late (by rfl) (.agg (nums .u64 (w4 x))) (fun _ => rfl) ?_
    simp only [Act.put, List.setIfInBounds_toArray, List.set]
    refine upW_late (by rfl) (.int .u64 1) (fun _ => rfl) ?_
    simp only [Act.put, List.setIfInBounds_toArray, List.set]
    refine upW_nil (fun wy hby => ?_)
    have HDY := Lib.hid (HD.out.ext hby)
    have HOY := Lib.hid (HO3.out.ext hby)
    have HBY := Lib.hid (show Below N w wy from HBS.out.trans (hby.mono (by have := HO3.out.lt; omega)))
    have HO1 := Lib.hid (show (nums .u64 (w4 r)).size = (nums .u64 (w4 x)).size by rw [size_nums, size_nums, w4_len, w4_len])
    have HO2 := Lib.hid (show (nums .u64 (zer 4)).size = (nums .u64 (w4 x)).size by rw [size_nums, size_nums, zer_len, w4_len])
    clear hby HD HO3 HBS
    go_wp2_with (refine wpList_store_row rfl 86 _ _ rfl M (nums .u64 (w4 x)) rfl rfl 86 _ HDY.out HSX.out HO1.out (nums_one _ _) (Stop.out ?_))
    generalize hWS : World.setRow _ _ _ = ws'
    have HE := Lib.hid (show RW ws' M .u64 86 (w4 x) by subst hWS; exact setRow_heap _ _ _ _ _ _ HDY.out)
    have HO4 := Lib.hid (show RW ws' (N + 1 + 1) .u64 86 (zer 4) by subst hWS; exact HOY.out.other (setRow_other _ _ _ _ (by omega)))
    have HB4 := Lib.hid (show Below N w ws' by subst hWS; exact Below.setRow HBY.out (by omega) _)
    clear hWS HDY HOY HBY
    refine ⟨?_⟩
    go_wp2_with (first
      | (refine wpList_load_row rfl 86 _ rfl M rfl 86 (nums .u64 (w4 x)) (0, 0) _ HE.out Try.underlying86 rfl HSX.out ?_)
      | (refine wpList_store_row rfl 86 _ _ rfl (N + 1 + 1) (nums .u64 (w4 x)) rfl rfl 86 _ HO4.out HSX.out HO2.out (nums_one _ _) ?_)
      )
    refine bodyPost_ret (results_cell_row (by rfl) _ _ (N + 1 + 1) 86 (nums .u64 (w4 x)) (0, 0) _ (by rfl) (setRow_heap _ _ _ _ _ _ HO4.out) Try.underlying86 rfl HSX.out) rfl ⟨by rw [HX.out], ?_⟩
    rw [HN.out]
    exact Below.setRow HB4.out (by omega) _
  · obtain ⟨r, hr⟩ : ∃ r, n - m = r := ⟨_, rfl⟩
    have HQ := Lib.hid (fun w => takeR_any n m r 0 w (by omega) (by omega) (by omega) (by omega) (by decide))
    have HX := Lib.hid (show (n + 57896044618658097711785492504343953926634992332820282019728792003956564819949 - m) % 57896044618658097711785492504343953926634992332820282019728792003956564819949 = r by omega)
    have HSR := Lib.hid (sR r)
    have HO2 := Lib.hid (show (nums .u64 (zer 4)).size = (nums .u64 (w4 r)).size by rw [size_nums, size_nums, zer_len, w4_len])
    clear hr hlt hn hm
    go_enter Try.func81, Try.ntmps81
    go_upto_region 1 with fail
    generalize hW1 : World.alloc _ _ = W1
    obtain ⟨N, hN⟩ : ∃ n, w.heap.size = n := ⟨_, rfl⟩
    have HR1 := Lib.hid (show RW W1 N .u64 86 (w4 n) by subst hW1; rw [← hN]; exact (alloc3_at w _ _ _).1)
    have HR2 := Lib.hid (show RW W1 (N + 1) .u64 86 (w4 m) by subst hW1; rw [← hN]; exact (alloc3_at w _ _ _).2.1)
    have HR3 := Lib.hid (show RW W1 (N + 1 + 1) .u64 86 (zer 4) by subst hW1; rw [← hN]; exact (alloc3_at w _ _ _).2.2)
    have HB1 := Lib.hid (show Below N w W1 by subst hW1; rw [← hN]; exact Below.alloc3 w _ _ _)
    have HNL := Lib.hid HR3.out.lt
    have HN := Lib.hid hN
    rw [hN]
    clear hW1 hN
    go_wp2_with (first
      | (refine wpList_load_row rfl 86 _ rfl N rfl 86 (nums .u64 (w4 n)) (0, 0) _ HR1.out Try.underlying86 rfl HSN.out ?_)
      | (refine wpList_load_row rfl 86 _ rfl (N + 1) rfl 86 (nums .u64 (w4 m)) (0, 0) _ HR2.out Try.underlying86 rfl HSM.out ?_)
      )
    refine (HQ.out _).mono ?_
    rintro e w2 ⟨rfl, hb2⟩
    have HB2 := Lib.hid hb2
    clear hb2
    go_wp2_with (refine wpList_store_row rfl 86 _ _ rfl w2.heap.size (nums .u64 (w4 r)) rfl rfl 86 _ (Go.heap_alloc_new _ _) HSR.out ?hold (nums_one _ _) (Stop.out ?_))
    case hold => rw [size_nums, size_nums, zer_len, w4_len]
    generalize hWS : World.setRow _ _ _ = ws
    obtain ⟨M, hM⟩ : ∃ n, w2.heap.size = n := ⟨_, rfl⟩
    have hMN : N + 1 + 1 < M := by rw [← hM]; have := HB2.out.size; have := HNL.out; omega
    have HD := Lib.hid (show RW ws M .u64 86 (w4 r) by subst hWS; rw [← hM]; exact setRow_heap _ _ _ _ _ _ (Go.heap_alloc_new _ _))
    have HBS := Lib.hid (show Below N w ws by subst hWS; rw [hM]; exact Below.setRow ((HB1.out.trans (HB2.out.mono (by have := HNL.out; omega))).alloc (by omega) _) (by omega) _)
    have HO3 := Lib.hid (show RW ws (N + 1 + 1) .u64 86 (zer 4) by subst hWS; exact (HR3.out.ext HB2.out).other ((setRow_other _ _ _ _ (by omega)).trans (Go.heap_alloc_old _ _ (HR3.out.ext HB2.out).lt)))
    rw [hM]
    clear hWS hM HB1 HB2 HR1 HR2
    refine ⟨?_⟩
    go_wp2_with (first
      | (refine wpList_load_row rfl 86 _ rfl M rfl 86 (nums .u64 (w4 r)) (0, 0) _ HD.out Try.underlying86 rfl HSR.out ?_)
      | (refine wpList_store_row rfl 86 _ _ rfl (N + 1 + 1) (nums .u64 (w4 r)) rfl rfl 86 _ HO3.out HSR.out HO2.out (nums_one _ _) ?_)
      )
    refine bodyPost_ret (results_cell_row (by rfl) _ _ (N + 1 + 1) 86 (nums .u64 (w4 r)) (0, 0) _ (by rfl) (setRow_heap _ _ _ _ _ _ HO3.out) Try.underlying86 rfl HSR.out) rfl ⟨by rw [HX.out], ?_⟩
    rw [HN.out]
    exact Below.setRow HBS.out (by omega) _
set_option maxRecDepth 100000 in
set_option maxHeartbeats 1000000 in
theorem addR_any (n m : Nat) (w : World) (hn : n < 57896044618658097711785492504343953926634992332820282019728792003956564819949) (hm : m < 57896044618658097711785492504343953926634992332820282019728792003956564819949) :
    Calls Try.prog 86 #[.agg (nums .u64 (w4 n)), .agg (nums .u64 (w4 m))] w fun e w' => e = .returned (.agg (nums .u64 (w4 ((n + m) % 57896044618658097711785492504343953926634992332820282019728792003956564819949)))) ∧ Below w.heap.size w w' := by
  have HSN := Lib.hid (sR n)
  have HSM := Lib.hid (sR m)
  have hz := zR
  obtain ⟨s, hs⟩ : ∃ s, n + m = s := ⟨_, rfl⟩
  have HQ := Lib.hid (fun w => plusR_any n m s 0 w (by omega) (by omega) (by omega) (by omega))
  have HOV := Lib.hid (fun w => overR_any s 0 w ⟨by show s < 115792089237316195423570985008687907853269984665640564039457584007913129639936; omega, by show 0 ≤ 39; decide⟩)
  rw [fk_zero s (by omega) 2] at HOV
  have HRE := Lib.hid (fun w => restR_any s w (by omega))
  rw [hs]
  obtain ⟨x, hx⟩ : ∃ x, s % 57896044618658097711785492504343953926634992332820282019728792003956564819949 = x := ⟨_, rfl⟩
  rw [hx] at HRE
  rw [hx]
  have HSS := Lib.hid (sR s)
  have HSX := Lib.hid (sR x)
  have HO := Lib.hid (show (nums .u64 (zer 4)).size = (nums .u64 (w4 x)).size by rw [size_nums, size_nums, zer_len, w4_len])
  clear hn hm hs hx
  go_enter Try.func86, Try.ntmps86
  go_upto_region 1 with fail
  generalize hW1 : World.alloc _ _ = W1
  obtain ⟨N, hN⟩ : ∃ n, w.heap.size = n := ⟨_, rfl⟩
  have HR1 := Lib.hid (show RW W1 N .u64 86 (w4 n) by subst hW1; rw [← hN]; exact (alloc3_at w _ _ _).1)
  have HR2 := Lib.hid (show RW W1 (N + 1) .u64 86 (w4 m) by subst hW1; rw [← hN]; exact (alloc3_at w _ _ _).2.1)
  have HR3 := Lib.hid (show RW W1 (N + 1 + 1) .u64 86 (zer 4) by subst hW1; rw [← hN]; exact (alloc3_at w _ _ _).2.2)
  have HB1 := Lib.hid (show Below N w W1 by subst hW1; rw [← hN]; exact Below.alloc3 w _ _ _)
  have HN := Lib.hid hN
  rw [hN]
  clear hW1 hN
  go_wp2_with (first
    | (refine wpList_load_row rfl 86 _ rfl N rfl 86 (nums .u64 (w4 n)) (0, 0) _ HR1.out Try.underlying86 rfl HSN.out ?_)
    | (refine wpList_load_row rfl 86 _ rfl (N + 1) rfl 86 (nums .u64 (w4 m)) (0, 0) _ HR2.out Try.underlying86 rfl HSM.out ?_)
    )
  refine (HQ.out _).mono ?_
  rintro e w2 ⟨rfl, hb2⟩
  have HZ := Lib.hid (HR3.out.ext hb2)
  have HB2 := Lib.hid (HB1.out.trans (hb2.mono (show N ≤ _ by have := HR3.out.lt; omega)))
  clear hb2 HR1 HR2 HR3 HB1
  go_wp2_with (refine wpList_store_row rfl 86 _ _ rfl w2.heap.size (nums .u64 (w4 s)) rfl rfl 86 _ (Go.heap_alloc_new _ _) HSS.out ?hold (nums_one _ _) (Stop.out ?_))
  case hold => rw [size_nums, size_nums, zer_len, w4_len]
  generalize hWS : World.setRow _ _ _ = ws
  obtain ⟨M, hM⟩ : ∃ n, w2.heap.size = n := ⟨_, rfl⟩
  have hMN : N + 1 + 1 < M := by rw [← hM]; exact HZ.out.lt
  have HD := Lib.hid (show RW ws M .u64 86 (w4 s) by subst hWS; rw [← hM]; exact setRow_heap _ _ _ _ _ _ (Go.heap_alloc_new _ _))
  have HZ2 := Lib.hid (show RW ws (N + 1 + 1) .u64 86 (zer 4) by subst hWS; exact HZ.out.other ((setRow_other _ _ _ _ (by omega)).trans (Go.heap_alloc_old _ _ HZ.out.lt)))
  have HB3 := Lib.hid (show Below N w ws by subst hWS; exact Below.setRow (HB2.out.alloc (by omega) _) (by omega) _)
  rw [hM]
  clear hWS hM HZ HB2
  refine ⟨?_⟩
  go_wp2_with (refine wpList_load_row rfl 86 _ rfl M rfl 86 (nums .u64 (w4 s)) (0, 0) _ HD.out Try.underlying86 rfl HSS.out ?_)
  refine (HOV.out _).mono ?_
  rintro e w3 ⟨rfl, hb3⟩
  have HZ3 := Lib.hid (HZ2.out.ext hb3)
  have HB4 := Lib.hid (HB3.out.trans (hb3.mono (show N ≤ _ by have := HZ2.out.lt; omega)))
  clear hb3 HZ2 HB3 HD
  go_wp2_with fail
  refine (HRE.out _).mono ?_
  rintro e w5 ⟨rfl, hb5⟩
  have HZ4 := Lib.hid (HZ3.out.ext hb5)
  have HB5 := Lib.hid (HB4.out.trans (hb5.mono (show N ≤ _ by have := HZ3.out.lt; omega)))
  clear hb5 HZ3 HB4
  go_wp2_with (refine wpList_store_row rfl 86 _ _ rfl (N + 1 + 1) (nums .u64 (w4 x)) rfl rfl 86 _ HZ4.out HSX.out HO.out (nums_one _ _) ?_)
  refine bodyPost_ret (results_cell_row (by rfl) _ _ (N + 1 + 1) 86 (nums .u64 (w4 x)) (0, 0) _ (by rfl) (setRow_heap _ _ _ _ _ _ HZ4.out) Try.underlying86 rfl HSX.out) rfl ⟨rfl, ?_⟩
  rw [HN.out]
  exact Below.setRow HB5.out (by omega) _
set_option maxRecDepth 100000 in
set_option maxHeartbeats 1000000 in
theorem wideR_any (n m : Nat) (w : World) (hn : n < 115792089237316195423570985008687907853269984665640564039457584007913129639936) (hm : m < 115792089237316195423570985008687907853269984665640564039457584007913129639936) :
    Calls Try.prog 107 #[.agg (nums .u64 (w4 n)), .agg (nums .u64 (w4 m))] w fun e w' => e = .returned (.agg (nums .u64 (w4 (n * m % 115792089237316195423570985008687907853269984665640564039457584007913129639936) ++ w4 (n * m / 115792089237316195423570985008687907853269984665640564039457584007913129639936)))) ∧ Below w.heap.size w w' := by
  have HNL := Lib.hid hn
  have HML := Lib.hid hm
  have hz := z8
  clear hn hm
  go_enter Try.func107, Try.ntmps107
  go_upto_region 1 with fail
  generalize hW1 : World.alloc _ _ = W1
  obtain ⟨N, hN⟩ : ∃ n, w.heap.size = n := ⟨_, rfl⟩
  have HR1 := Lib.hid (show RW W1 N .u64 86 (w4 n) by subst hW1; rw [← hN]; exact (alloc3_at w _ _ _).1)
  have HR2 := Lib.hid (show RW W1 (N + 1) .u64 86 (w4 m) by subst hW1; rw [← hN]; exact (alloc3_at w _ _ _).2.1)
  have HR3 := Lib.hid (show RW W1 (N + 1 + 1) .u64 104 (zer 8) by subst hW1; rw [← hN]; exact (alloc3_at w _ _ _).2.2)
  have HB1 := Lib.hid (show Below N w W1 by subst hW1; rw [← hN]; exact Below.alloc3 w _ _ _)
  have HNW := Lib.hid (show W1.heap.size = N + 1 + 1 + 1 by subst hW1; rw [← hN]; simp)
  have HN := Lib.hid hN
  rw [hN]
  clear hW1 hN
  go_upto_region 2 with fail
  generalize hW2 : World.alloc _ _ = W2
  have HC1 := Lib.hid (show RW W2 N .u64 86 (w4 n) by subst hW2; exact HR1.out.other (Go.heap_alloc_old _ _ HR1.out.lt))
  have HC2 := Lib.hid (show RW W2 (N + 1) .u64 86 (w4 m) by subst hW2; exact HR2.out.other (Go.heap_alloc_old _ _ HR2.out.lt))
  have HC3 := Lib.hid (show RW W2 (N + 1 + 1) .u64 104 (zer 8) by subst hW2; exact HR3.out.other (Go.heap_alloc_old _ _ HR3.out.lt))
  have HC4 := Lib.hid (show RW W2 (N + 1 + 1 + 1) .u64 104 (zer 8) by subst hW2; rw [← HNW.out]; exact Go.heap_alloc_new _ _)
  have HCB := Lib.hid (show Below N w W2 by subst hW2; exact HB1.out.alloc (by have := HNW.out; omega) _)
  rw [HNW.out]
  clear hW2 HR1 HR2 HR3 HB1 hz
  go_wp2_with fail
  go_loopw [6] (fun iv wr => ∃ (i : Nat) (p : List Nat), iv = .int .i64 i ∧ i ≤ 4 ∧ Pr p i (n % 18446744073709551616 ^ i * m) ∧ RW wr N .u64 86 (w4 n) ∧ RW wr (N + 1) .u64 86 (w4 m) ∧ RW wr (N + 1 + 1) .u64 104 (zer 8) ∧ RW wr (N + 1 + 1 + 1) .u64 104 p ∧ Below N w wr) (fun i _ => 4 - (intOf i).toNat)
  case atStart => exact ⟨0, zer 8, rfl, Nat.zero_le _, by rw [Nat.pow_zero, Nat.mod_one, Nat.zero_mul]; exact pr0, HC1.out, HC2.out, HC3.out, HC4.out, HCB.out⟩
  case round =>
    obtain ⟨i, p, rfl, hi, hpr, hr1, hr2, hr3, hr4, hbel⟩ := hrel
    have HPR := Lib.hid hpr
    have HA1 := Lib.hid hr1
    have HA2 := Lib.hid hr2
    have HA3 := Lib.hid hr3
    have HA4 := Lib.hid hr4
    have HBE := Lib.hid hbel
    clear hpr hr1 hr2 hr3 hr4 hbel HC1 HC2 HC3 HC4 HCB
    by_cases hlt : i < 4
    · have hlt' : (i : Int) < 4 := by omega
      have HXL := Lib.hid (show wd n i < 18446744073709551616 from Nat.mod_lt _ (by decide))
      have HNX := Lib.hid (pr_next n m i)
      have HWI := Lib.hid (w4_get n i hlt)
      obtain ⟨x, hx⟩ : ∃ x, wd n i = x := ⟨_, rfl⟩
      rw [hx] at HXL HNX HWI
      clear hx
      go_wp2_with fail
      go_loopw [7, 8] (fun ov jv wr => ∃ (j c : Nat) (p : List Nat), jv = .int .i64 j ∧ ov = .int .u64 c ∧ j ≤ 4 ∧ Pj p i j c (n % 18446744073709551616 ^ i * m + 18446744073709551616 ^ i * (x * (m % 18446744073709551616 ^ j))) ∧ RW wr N .u64 86 (w4 n) ∧ RW wr (N + 1) .u64 86 (w4 m) ∧ RW wr (N + 1 + 1) .u64 104 (zer 8) ∧ RW wr (N + 1 + 1 + 1) .u64 104 p ∧ Below N w wr) (fun _ j _ => 4 - (intOf j).toNat)
      case atStart => exact ⟨0, 0, p, rfl, rfl, Nat.zero_le _, by rw [Nat.pow_zero, Nat.mod_one, Nat.mul_zero, Nat.mul_zero, Nat.add_zero]; exact Pj.start HPR.out i rfl, HA1.out, HA2.out, HA3.out, HA4.out, HBE.out⟩
      case round =>
        obtain ⟨j, c, p', rfl, rfl, hj, hpj, hr1, hr2, hr3, hr4, hbel⟩ := hrel
        have HPJ := Lib.hid hpj
        have HD1 := Lib.hid hr1
        have HD2 := Lib.hid hr2
        have HD3 := Lib.hid hr3
        have HD4 := Lib.hid hr4
        have HDE := Lib.hid hbel
        clear hpj hr1 hr2 hr3 hr4 hbel HA1 HA2 HA3 HA4 HBE
        by_cases hlt2 : j < 4
        · have hlt2' : (j : Int) < 4 := by omega
          have i1 : IntKind.i64.wrap ((i : Int) + (j : Int)) = (i : Int) + (j : Int) := by rw [IntKind.wrap_i64]; omega
          have i2 : (0 : Int) ≤ (i : Int) + (j : Int) := by omega
          have i3 : (i : Int) + (j : Int) < 8 := by omega
          have i4 : ((i : Int) + (j : Int)).toNat = i + j := by omega
          have c1 := HD1.out.cell (i := i) (by rw [w4_len]; exact hlt)
          rw [HWI.out] at c1
          have c2 := HD2.out.cell (i := j) (by rw [w4_len]; exact hlt2)
          rw [w4_get m j hlt2] at c2
          have hyl : wd m j < 18446744073709551616 := Nat.mod_lt _ (by decide)
          have HNY := Lib.hid (pj_next x m j (18446744073709551616 ^ i) (n % 18446744073709551616 ^ i * m))
          obtain ⟨y, hy⟩ : ∃ y, wd m j = y := ⟨_, rfl⟩
          rw [hy] at c2 hyl HNY
          have hol := HPJ.out.lt (i + j)
          have hcl := HPJ.out.over
          obtain ⟨o, ho⟩ : ∃ o, p'.getD (i + j) 0 = o := ⟨_, rfl⟩
          rw [ho] at hol
          have HOO := Lib.hid ho
          have M := Lib.hid (fun w => (mul64_any x y HXL.out hyl w).mono (R' := fun e w' => e = .returned (.tuple #[.int .u64 ((x * y / 18446744073709551616 : Nat) : Int), .int .u64 ((x * y % 18446744073709551616 : Nat) : Int)]) ∧ Below w.heap.size w w') (fun e w' h => ⟨h.1, by rw [h.2]; exact Below.refl _ _⟩))
          have hm := mul_lt64 HXL.out hyl
          obtain ⟨q, hq⟩ : ∃ q, x * y = q := ⟨_, rfl⟩
          rw [hq] at M hm
          obtain ⟨l1, hl1⟩ : ∃ z, q % 18446744073709551616 = z := ⟨_, rfl⟩
          obtain ⟨h1, hh1⟩ : ∃ z, q / 18446744073709551616 = z := ⟨_, rfl⟩
          rw [hl1, hh1] at M
          obtain ⟨s1, hs1⟩ : ∃ z, (l1 + o) % 18446744073709551616 = z := ⟨_, rfl⟩
          obtain ⟨d1, hd1⟩ : ∃ z, (l1 + o) / 18446744073709551616 = z := ⟨_, rfl⟩
          obtain ⟨s2, hs2⟩ : ∃ z, (s1 + c) % 18446744073709551616 = z := ⟨_, rfl⟩
          obtain ⟨d2, hd2⟩ : ∃ z, (s1 + c) / 18446744073709551616 = z := ⟨_, rfl⟩
          have A1 := Lib.hid (fun w => add64_0 l1 o s1 d1 (by omega) (by omega) w)
          have A2 := Lib.hid (fun w => add64_0 s1 c s2 d2 (by omega) (by omega) w)
          obtain ⟨h, hh⟩ : ∃ z, h1 + d1 + d2 = z := ⟨_, rfl⟩
          have W1 := Lib.hid (show IntKind.u64.wrap ((h1 : Int) + d1) = ((h1 + d1 : Nat) : Int) by rw [IntKind.wrap_u64]; omega)
          have W2 := Lib.hid (show IntKind.u64.wrap (((h1 + d1 : Nat) : Int) + d2) = (h : Int) by rw [IntKind.wrap_u64]; omega)
          generalize hgg : h1 + d1 = h2 at W1 W2 hh
          have HST := Lib.hid (HPJ.out.step hlt hlt2 (lo := s2) (hi := h) (a := x) (b := y) (by omega) (by omega) (by rw [ho, hq]; omega))
          rw [Nat.pow_add, HNY.out] at HST
          clear hy hyl hol hcl ho hm hq hl1 hh1 hs1 hd1 hs2 hd2 hh hgg HNY
          have k1 := fun p => Ext.cell c1 p
          have k2 := fun p => Ext.cell c2 p
          go_wp2_with fail
          refine wp_region_up 10 9 (by kernel_rfl) (by kernel_rfl) (fun _ _ dst _ _ h => by cases dst <;> exact h) ?_
          simp only [List.take_succ_cons, List.take_zero, List.drop_succ_cons, List.drop_zero]
          refine upW_val (by rfl) (by rfl) (by rfl) ?_
          intro K hK
          go_big_quiet_op
          refine hK _ ?_
          refine upW_val (by rfl) (by rfl) (by rfl) ?_
          intro K hK
          go_big_quiet_op
          refine hK _ ?_
          refine upW_val (by rfl) (by rfl) (by rfl) ?_
          intro K hK
          go_big_quiet_op
          refine hK _ ?_
          refine upW_val (by rfl) (by rfl) (by rfl) ?_
          intro K hK
          go_big_quiet_op
          refine hK _ ?_
          refine upW_val (by rfl) (by rfl) (by rfl) ?_
          intro K hK
          go_big_quiet_op
          refine hK _ ?_
          refine upW_val (by rfl) (by rfl) (by rfl) ?_
          intro K hK
          go_big_quiet_op
          refine hK _ ?_
          refine upW_call (by rfl) (by rfl) (.tuple #[.int .u64 (h1 : Int), .int .u64 (l1 : Int)]) _ rfl (by simp) (fun p => ?_) ?_
          · go_big_quiet_op
            exact ⟨_, fun q => Calls.ext_of (M.out q.x), rfl⟩
          simp only [Act.put, List.setIfInBounds_toArray, List.set]
          refine upW_val (by rfl) (by rfl) (by rfl) ?_
          intro K hK
          go_big_quiet_op
          refine hK _ ?_
          refine upW_late (by rfl) (.int .u64 (h1 : Int)) (fun _ => rfl) ?_
          simp only [Act.put, List.setIfInBounds_toArray, List.set]
          refine upW_late (by rfl) (.int .u64 (l1 : Int)) (fun _ => rfl) ?_
          simp only [Act.put, List.setIfInBounds_toArray, List.set]
          refine upW_nil (fun wy hby => ?_)
          have HE1 := Lib.hid (HD1.out.ext hby)
          have HE2 := Lib.hid (HD2.out.ext hby)
          have HE3 := Lib.hid (HD3.out.ext hby)
          have HE4 := Lib.hid (HD4.out.ext hby)
          have HEB := Lib.hid (HDE.out.trans (hby.mono (show N ≤ _ by have := HD4.out.lt; omega)))
          clear hby HD1 HD2 HD3 HD4 HDE k1 k2 c1 c2
          have c3 := HE4.out.cell (i := i + j) (by rw [HPJ.out.len]; omega)
          rw [HOO.out] at c3
          have f3 := HE4.out.frozen (i + j)
          have a1 := A1.out
          have a2 := A2.out
          have w1 := W1.out
          have w2 := W2.out
          go_wp2_with fail
          go_roundw
          case rel => exact ⟨j + 1, h, _, rfl, rfl, hlt2, HST.out, HE1.out.other (setCell_other _ (by omega)), HE2.out.other (setCell_other _ (by omega)), HE3.out.other (setCell_other _ (by omega)), HE4.out.set s2, HEB.out.setCell (p := ⟨N + 1 + 1 + 1, i + j, none⟩) (by show N ≤ N + 1 + 1 + 1; omega) _⟩
          case measure => simp [intOf]; omega
        · have hlt2' : ¬ (j : Int) < 4 := by omega
          obtain rfl : j = 4 := by omega
          have i1 : IntKind.i64.wrap ((i : Int) + 4) = (i : Int) + 4 := by rw [IntKind.wrap_i64]; omega
          have i2 : (0 : Int) ≤ (i : Int) + 4 := by omega
          have i3 : (i : Int) + 4 < 8 := by omega
          have i4 : ((i : Int) + 4).toNat = i + 4 := by omega
          have HPN := Lib.hid (show Pr (p'.set (i + 4) c) (i + 1) (n % 18446744073709551616 ^ (i + 1) * m) by
            rw [← HNX.out]
            have := HPJ.out.done hlt
            rw [show m % 18446744073709551616 ^ 4 = m from Nat.mod_eq_of_lt HML.out] at this
            exact this)
          have c2 := HD4.out.cell (i := i + 4) (by rw [HPJ.out.len]; omega)
          have f2 := HD4.out.frozen (i + 4)
          generalize p'.getD (i + 4) 0 = o at c2
          go_wp2_with fail
          go_roundw
          case rel => exact ⟨i + 1, _, rfl, hlt, HPN.out, HD1.out.other (setCell_other _ (by omega)), HD2.out.other (setCell_other _ (by omega)), HD3.out.other (setCell_other _ (by omega)), HD4.out.set c, HDE.out.setCell (p := ⟨N + 1 + 1 + 1, i + 4, none⟩) (by show N ≤ N + 1 + 1 + 1; omega) _⟩
          case measure => simp [intOf]; omega
    · have hlt' : ¬ (i : Int) < 4 := by omega
      obtain rfl : i = 4 := by omega
      have HV := Lib.hid (show p = w4 (n * m % 115792089237316195423570985008687907853269984665640564039457584007913129639936) ++ w4 (n * m / 115792089237316195423570985008687907853269984665640564039457584007913129639936) by
        have h := w8_nv p HPR.out.len HPR.out.lt
        rw [HPR.out.val, show n % 18446744073709551616 ^ 4 = n from Nat.mod_eq_of_lt HNL.out] at h
        exact h)
      have HS8 := Lib.hid (s8 p HPR.out.len)
      have HO := Lib.hid (show (nums .u64 (zer 8)).size = (nums .u64 p).size by rw [size_nums, size_nums, zer_len, HPR.out.len])
      go_wp2_with (first
        | (refine wpList_load_row rfl 104 _ rfl (N + 1 + 1 + 1) rfl 104 (nums .u64 p) (0, 0) _ HA4.out Try.underlying104 rfl HS8.out ?_)
        | (refine wpList_store_row rfl 104 _ _ rfl (N + 1 + 1) (nums .u64 p) rfl rfl 104 _ HA3.out HS8.out HO.out (nums_one _ _) ?_)
        )
      refine bodyPost_ret (results_cell_row (by rfl) _ _ (N + 1 + 1) 104 (nums .u64 p) (0, 0) _ (by rfl) (setRow_heap _ _ _ _ _ _ HA3.out) Try.underlying104 rfl HS8.out) rfl ⟨by rw [HV.out], ?_⟩
      rw [HN.out]
      exact Below.setRow HBE.out (by omega) _
end Go.Proofs.Ytfmclkmmkceldaa
