/-
  The document's functions of layer 8.
  Conditions: none.
-/
import Derived.Test.YtgajheocobgecaaScI
namespace Go.Proofs.Ytgajheocobgecaa
open Go.RowKit

set_option maxRecDepth 100000 in
set_option maxHeartbeats 1000000 in
theorem GoodL_doc (l : List UInt8) (w : World) (hl : l.length = 32) :
    Calls Try.prog 36 #[.agg (byteVals l).toArray] w fun e w' => e = .returned (.bool (decide (le l < 7237005577332262213973186563042994240857116359379907606001950938285454250989))) ∧ Below w.heap.size w w' := by
  have HSL := Lib.hid (sBr l hl)
  have HOF := Lib.hid (fun w => fromR_any l w hl)
  have HNL := Lib.hid (le_32 l hl)
  have HOR := Lib.hid (fun w => orderR_any w)
  obtain ⟨n, hn⟩ : ∃ x, le l = x := ⟨_, rfl⟩
  rw [hn] at HOF HNL
  rw [hn]
  clear hn hl
  by_cases hlt : n < 7237005577332262213973186563042994240857116359379907606001950938285454250989
  · have HNL' := HNL.out
    obtain ⟨r, hr⟩ : ∃ r, n + 115792089237316195423570985008687907853269984665640564039457584007913129639936 - 7237005577332262213973186563042994240857116359379907606001950938285454250989 = r := ⟨_, rfl⟩
    have HMI := Lib.hid (fun w => takeR_any n 7237005577332262213973186563042994240857116359379907606001950938285454250989 r 1 w (by omega) (by decide) (by omega) (by omega) (by decide))
    rw [decide_eq_true hlt]
    have HSR := Lib.hid (sR r)
    clear hr hlt
    have hz := zB
    have hzR := zR
    go_enter Try.func36, Try.ntmps36
    go_upto_region 1 with fail
    generalize hW1 : World.alloc _ _ = W1
    obtain ⟨N, hN⟩ : ∃ n, w.heap.size = n := ⟨_, rfl⟩
    have HR0 := Lib.hid (show BT W1 N 22 l by subst hW1; rw [← hN]; exact Go.heap_alloc_new _ _)
    have HB := Lib.hid (show Below N w W1 by subst hW1; rw [← hN]; exact (Below.refl _ w).alloc (Nat.le_refl _) _)
    have HN := Lib.hid hN
    rw [hN]
    clear hW1 hN
    go_wp2_with (refine wpList_load_row rfl 22 _ rfl N rfl 22 ((byteVals l).toArray) (0, 0) _ HR0.out Try.underlying22 rfl HSL.out ?_)
    refine (HOF.out _).mono ?_
    rintro e wu1 ⟨rfl, hb1⟩
    have HR0x1 := Lib.hid (HR0.out.ext hb1)
    have HBx1 := Lib.hid (HB.out.trans (hb1.mono (show N ≤ _ by have := HR0.out.lt; omega)))
    clear hb1 HR0 HB
    have HR0 := HR0x1
    have HB := HBx1
    clear HR0x1 HBx1
    go_wp2_with fail
    refine (HOR.out _).mono ?_
    rintro e wu2 ⟨rfl, hb2⟩
    have HR0x2 := Lib.hid (HR0.out.ext hb2)
    have HBx2 := Lib.hid (HB.out.trans (hb2.mono (show N ≤ _ by have := HR0.out.lt; omega)))
    clear hb2 HR0 HB
    have HR0 := HR0x2
    have HB := HBx2
    clear HR0x2 HBx2
    go_wp2_with fail
    refine (HMI.out _).mono ?_
    rintro e wu3 ⟨rfl, hb3⟩
    have HR0x3 := Lib.hid (HR0.out.ext hb3)
    have HBx3 := Lib.hid (HB.out.trans (hb3.mono (show N ≤ _ by have := HR0.out.lt; omega)))
    clear hb3 HR0 HB
    have HR0 := HR0x3
    have HB := HBx3
    clear HR0x3 HBx3
    go_wp2_with (refine wpList_store_row rfl 64 _ _ rfl wu3.heap.size (nums .u64 (w4 r)) rfl rfl 64 _ (Go.heap_alloc_new _ _) HSR.out ?hold (nums_one _ _) (Stop.out ?_))
    case hold => rw [size_nums, size_nums, zer_len, w4_len]
    generalize hWS : World.setRow _ _ _ = ws
    have HE := Lib.hid (show Below N w ws by subst hWS; exact Below.setRow (HB.out.alloc (by have := HR0.out.lt; omega) _) (by have := HR0.out.lt; omega) _)
    clear hWS HR0 HB
    refine ⟨?_⟩
    go_wp2
    go_ret
    exact ⟨rfl, HN.out.symm ▸ HE.out⟩
  · obtain ⟨r, hr⟩ : ∃ r, n - 7237005577332262213973186563042994240857116359379907606001950938285454250989 = r := ⟨_, rfl⟩
    have HMI := Lib.hid (fun w => takeR_any n 7237005577332262213973186563042994240857116359379907606001950938285454250989 r 0 w HNL.out (by decide) (by have := HNL.out; omega) (by omega) (by decide))
    rw [decide_eq_false hlt]
    have HSR := Lib.hid (sR r)
    clear hr hlt
    have hz := zB
    have hzR := zR
    go_enter Try.func36, Try.ntmps36
    go_upto_region 1 with fail
    generalize hW1 : World.alloc _ _ = W1
    obtain ⟨N, hN⟩ : ∃ n, w.heap.size = n := ⟨_, rfl⟩
    have HR0 := Lib.hid (show BT W1 N 22 l by subst hW1; rw [← hN]; exact Go.heap_alloc_new _ _)
    have HB := Lib.hid (show Below N w W1 by subst hW1; rw [← hN]; exact (Below.refl _ w).alloc (Nat.le_refl _) _)
    have HN := Lib.hid hN
    rw [hN]
    clear hW1 hN
    go_wp2_with (refine wpList_load_row rfl 22 _ rfl N rfl 22 ((byteVals l).toArray) (0, 0) _ HR0.out Try.underlying22 rfl HSL.out ?_)
    refine (HOF.out _).mono ?_
    rintro e wu4 ⟨rfl, hb4⟩
    have HR0x4 := Lib.hid (HR0.out.ext hb4)
    have HBx4 := Lib.hid (HB.out.trans (hb4.mono (show N ≤ _ by have := HR0.out.lt; omega)))
    clear hb4 HR0 HB
    have HR0 := HR0x4
    have HB := HBx4
    clear HR0x4 HBx4
    go_wp2_with fail
    refine (HOR.out _).mono ?_
    rintro e wu5 ⟨rfl, hb5⟩
    have HR0x5 := Lib.hid (HR0.out.ext hb5)
    have HBx5 := Lib.hid (HB.out.trans (hb5.mono (show N ≤ _ by have := HR0.out.lt; omega)))
    clear hb5 HR0 HB
    have HR0 := HR0x5
    have HB := HBx5
    clear HR0x5 HBx5
    go_wp2_with fail
    refine (HMI.out _).mono ?_
    rintro e wu6 ⟨rfl, hb6⟩
    have HR0x6 := Lib.hid (HR0.out.ext hb6)
    have HBx6 := Lib.hid (HB.out.trans (hb6.mono (show N ≤ _ by have := HR0.out.lt; omega)))
    clear hb6 HR0 HB
    have HR0 := HR0x6
    have HB := HBx6
    clear HR0x6 HBx6
    go_wp2_with (refine wpList_store_row rfl 64 _ _ rfl wu6.heap.size (nums .u64 (w4 r)) rfl rfl 64 _ (Go.heap_alloc_new _ _) HSR.out ?hold (nums_one _ _) (Stop.out ?_))
    case hold => rw [size_nums, size_nums, zer_len, w4_len]
    generalize hWS : World.setRow _ _ _ = ws
    have HE := Lib.hid (show Below N w ws by subst hWS; exact Below.setRow (HB.out.alloc (by have := HR0.out.lt; omega) _) (by have := HR0.out.lt; omega) _)
    clear hWS HR0 HB
    refine ⟨?_⟩
    go_wp2
    go_ret
    exact ⟨rfl, HN.out.symm ▸ HE.out⟩
theorem addL_eq (a b : Nat) : (a % 7237005577332262213973186563042994240857116359379907606001950938285454250989 + b % 7237005577332262213973186563042994240857116359379907606001950938285454250989) % 7237005577332262213973186563042994240857116359379907606001950938285454250989 = oAdd a b := by unfold oAdd; rw [← Nat.add_mod]
set_option maxRecDepth 100000 in
set_option maxHeartbeats 1000000 in
theorem AddL_doc (a b : List UInt8) (w : World) (ha : a.length = 32) (hb : b.length = 32) :
    Calls Try.prog 38 #[.agg (byteVals a).toArray, .agg (byteVals b).toArray] w fun e w' => e = .returned (.agg (byteVals (b32 (oAdd (le a) (le b)))).toArray) ∧ Below w.heap.size w w' := by
  have HSL := Lib.hid (sBr a ha)
  have HSM := Lib.hid (sBr b hb)
  have HOL := Lib.hid (fun w => fromR_any a w ha)
  have HOM := Lib.hid (fun w => fromR_any b w hb)
  have HRL := Lib.hid (fun w => small_any (le a) w (le_32 a ha))
  have HRM := Lib.hid (fun w => small_any (le b) w (le_32 b hb))
  have hal : le a % 7237005577332262213973186563042994240857116359379907606001950938285454250989 < 7237005577332262213973186563042994240857116359379907606001950938285454250989 := Nat.mod_lt _ (by decide)
  have hbl : le b % 7237005577332262213973186563042994240857116359379907606001950938285454250989 < 7237005577332262213973186563042994240857116359379907606001950938285454250989 := Nat.mod_lt _ (by decide)
  rw [← addL_eq (le a) (le b)]
  obtain ⟨x, hx⟩ : ∃ x, le a % 7237005577332262213973186563042994240857116359379907606001950938285454250989 = x := ⟨_, rfl⟩
  obtain ⟨y, hy⟩ : ∃ x, le b % 7237005577332262213973186563042994240857116359379907606001950938285454250989 = x := ⟨_, rfl⟩
  rw [hx] at HRL hal
  rw [hy] at HRM hbl
  rw [hx, hy]
  have HPL := Lib.hid (fun w => plusR_any x y (x + y) 0 w (by omega) (by omega) (by omega) (by omega))
  have HRS := Lib.hid (fun w => small_any (x + y) w (by omega))
  obtain ⟨s, hs⟩ : ∃ s, x + y = s := ⟨_, rfl⟩
  rw [hs] at HPL HRS
  rw [hs]
  obtain ⟨t, ht⟩ : ∃ t, s % 7237005577332262213973186563042994240857116359379907606001950938285454250989 = t := ⟨_, rfl⟩
  rw [ht] at HRS
  rw [ht]
  have HNM := Lib.hid (fun w => bytesR_any t w)
  have HSV := Lib.hid (sR s)
  have HSX := Lib.hid (sBr (b32 t) (b32_len _))
  have HOX := Lib.hid (oN (zerB 32) (b32 t) (zerB_len 32) (b32_len _))
  clear ha hb hx hy hs ht hal hbl
  have hz := zB
  have hzR := zR
  go_enter Try.func38, Try.ntmps38
  go_upto_region 1 with fail
  generalize hW1 : World.alloc _ _ = W1
  obtain ⟨N, hN⟩ : ∃ n, w.heap.size = n := ⟨_, rfl⟩
  have HR0 := Lib.hid (show BT W1 N 22 a by subst hW1; rw [← hN]; exact (alloc3_at w _ _ _).1)
  have HR1 := Lib.hid (show BT W1 (N + 1) 22 b by subst hW1; rw [← hN]; exact (alloc3_at w _ _ _).2.1)
  have HRZ := Lib.hid (show BT W1 (N + 1 + 1) 22 (zerB 32) by subst hW1; rw [← hN]; exact (alloc3_at w _ _ _).2.2)
  have HB := Lib.hid (show Below N w W1 by subst hW1; rw [← hN]; exact Below.alloc3 w _ _ _)
  have HN := Lib.hid hN
  rw [hN]
  clear hW1 hN
  refine wp_region_upA 11 9 10 [0, 1, 2, 3, 4, 5, 6, 7, 8, 9] _ (.cells (nums .u64 (zer 4)) 64) (by kernel_rfl) (by kernel_rfl) (fun _ _ dst _ _ h => by cases dst <;> exact h) rfl (fun a w K hK => wpOp_of_run rfl rfl (run_allocR a _ rfl w) hK) rfl ?_
  simp only [List.take_succ_cons, List.take_zero, List.drop_succ_cons, List.drop_zero, List.eraseIdx_cons_succ, List.eraseIdx_cons_zero]
  refine upW_val (by rfl) (by rfl) (by rfl) (fun K hK => quiet_load_row _ _ rfl N rfl 22 _ (0, 0) _ HR0.out Try.underlying22 rfl HSL.out (hK _ ?_))
  simp only [Act.put, List.setIfInBounds_toArray, List.set]
  refine upW_call (by rfl) (by rfl) (.agg (nums .u64 (w4 (le a)))) _ rfl (by simp) (fun p => ?_) ?_
  · go_big_quiet_op
    exact ⟨_, fun q => Calls.ext_of (HOL.out q.x), rfl⟩
  simp only [Act.put, List.setIfInBounds_toArray, List.set]
  refine upW_call (by rfl) (by rfl) (.agg (nums .u64 (w4 x))) _ rfl (by simp) (fun p => ?_) ?_
  · go_big_quiet_op
    exact ⟨_, fun q => Calls.ext_of (HRL.out q.x), rfl⟩
  simp only [Act.put, List.setIfInBounds_toArray, List.set]
  refine upW_val (by rfl) (by rfl) (by rfl) (fun K hK => quiet_load_row _ _ rfl (N + 1) rfl 22 _ (0, 0) _ HR1.out Try.underlying22 rfl HSM.out (hK _ ?_))
  simp only [Act.put, List.setIfInBounds_toArray, List.set]
  refine upW_call (by rfl) (by rfl) (.agg (nums .u64 (w4 (le b)))) _ rfl (by simp) (fun p => ?_) ?_
  · go_big_quiet_op
    exact ⟨_, fun q => Calls.ext_of (HOM.out q.x), rfl⟩
  simp only [Act.put, List.setIfInBounds_toArray, List.set]
  refine upW_call (by rfl) (by rfl) (.agg (nums .u64 (w4 y))) _ rfl (by simp) (fun p => ?_) ?_
  · go_big_quiet_op
    exact ⟨_, fun q => Calls.ext_of (HRM.out q.x), rfl⟩
  simp only [Act.put, List.setIfInBounds_toArray, List.set]
  refine upW_call (by rfl) (by rfl) (.tuple #[.agg (nums .u64 (w4 s)), .int .u64 0]) _ rfl (by simp) (fun p => ?_) ?_
  · go_big_quiet_op
    exact ⟨_, fun q => Calls.ext_of (HPL.out q.x), rfl⟩
  simp only [Act.put, List.setIfInBounds_toArray, List.set]
  refine upW_val (by rfl) (by rfl) (by rfl) ?_
  intro K hK
  go_big_quiet_op
  refine hK _ ?_
  refine upW_late (by rfl) (.agg (nums .u64 (w4 s))) (fun _ => rfl) ?_
  simp only [Act.put, List.setIfInBounds_toArray, List.set]
  refine upW_late (by rfl) (.int .u64 0) (fun _ => rfl) ?_
  simp only [Act.put, List.setIfInBounds_toArray, List.set]
  refine upW_nil (fun M wm hM hbm hom => ?_)
  simp only [List.setIfInBounds_toArray]
  have HOB := Lib.hid hom
  have hMZ := Nat.lt_of_lt_of_le HRZ.out.lt hM
  clear hom
  have HR0x901 := Lib.hid (HR0.out.ext hbm)
  have HR1x901 := Lib.hid (HR1.out.ext hbm)
  have HRZx901 := Lib.hid (HRZ.out.ext hbm)
  have HBx901 := Lib.hid (HB.out.trans (hbm.mono (show N ≤ _ by have := HRZ.out.lt; omega)))
  clear hbm HR0 HR1 HRZ HB
  have HR0 := HR0x901
  have HR1 := HR1x901
  have HRZ := HRZx901
  have HB := HBx901
  clear HR0x901 HR1x901 HRZx901 HBx901
  go_wp2_with (refine wpList_store_row rfl 64 _ _ rfl M (nums .u64 (w4 s)) rfl rfl 64 _ HOB.out HSV.out ?hold (nums_one _ _) (Stop.out ?_))
  case hold => rw [size_nums, size_nums, zer_len]; rfl
  generalize hWS : World.setRow _ _ _ = ws
  have HD := Lib.hid (show RW ws M .u64 64 (w4 s) by subst hWS; exact setRow_heap _ _ _ _ _ _ HOB.out)
  have HZ := Lib.hid (show BT ws (N + 1 + 1) 22 (zerB 32) by subst hWS; exact HRZ.out.other (setRow_other _ _ _ _ (by omega)))
  have HE := Lib.hid (show Below N w ws by subst hWS; exact Below.setRow HB.out (by omega) _)
  clear hWS HR0 HR1 HRZ HB HOB
  have HRZ := HZ
  have HB := HE
  clear HZ HE
  refine ⟨?_⟩
  go_wp2_with (refine wpList_load_row rfl 64 _ rfl M rfl 64 (nums .u64 (w4 s)) (0, 0) _ HD.out Try.underlying64 rfl HSV.out ?_)
  refine (HRS.out _).mono ?_
  rintro e wu7 ⟨rfl, hb7⟩
  have HRZx7 := Lib.hid (HRZ.out.ext hb7)
  have HBx7 := Lib.hid (HB.out.trans (hb7.mono (show N ≤ _ by have := HRZ.out.lt; omega)))
  clear hb7 HRZ HB
  have HRZ := HRZx7
  have HB := HBx7
  clear HRZx7 HBx7
  go_wp2_with fail
  refine (HNM.out _).mono ?_
  rintro e wu8 ⟨rfl, hb8⟩
  have HRZx8 := Lib.hid (HRZ.out.ext hb8)
  have HBx8 := Lib.hid (HB.out.trans (hb8.mono (show N ≤ _ by have := HRZ.out.lt; omega)))
  clear hb8 HRZ HB
  have HRZ := HRZx8
  have HB := HBx8
  clear HRZx8 HBx8
  go_wp2_with (refine wpList_store_row rfl 22 _ _ rfl (N + 1 + 1) ((byteVals (b32 t)).toArray) rfl rfl 22 _ HRZ.out HSX.out HOX.out (byteVals_one _) ?_)
  refine bodyPost_ret (results_cell_row (by rfl) _ _ (N + 1 + 1) 22 ((byteVals (b32 t)).toArray) (0, 0) _ (by rfl) (setRow_heap _ _ _ _ _ _ HRZ.out) Try.underlying22 rfl HSX.out) rfl ⟨rfl, ?_⟩
  rw [HN.out]
  exact Below.setRow HB.out (by omega) _
theorem negL_eq (a : Nat) : (7237005577332262213973186563042994240857116359379907606001950938285454250989 - a % 7237005577332262213973186563042994240857116359379907606001950938285454250989) % 7237005577332262213973186563042994240857116359379907606001950938285454250989 = oNeg a := rfl
set_option maxRecDepth 100000 in
set_option maxHeartbeats 1000000 in
theorem NegL_doc (l : List UInt8) (w : World) (hl : l.length = 32) :
    Calls Try.prog 39 #[.agg (byteVals l).toArray] w fun e w' => e = .returned (.agg (byteVals (b32 (oNeg (le l)))).toArray) ∧ Below w.heap.size w w' := by
  have HSL := Lib.hid (sBr l hl)
  have HOL := Lib.hid (fun w => fromR_any l w hl)
  have HRL := Lib.hid (fun w => small_any (le l) w (le_32 l hl))
  have HOR := Lib.hid (fun w => orderR_any w)
  have hal : le l % 7237005577332262213973186563042994240857116359379907606001950938285454250989 < 7237005577332262213973186563042994240857116359379907606001950938285454250989 := Nat.mod_lt _ (by decide)
  rw [← negL_eq (le l)]
  obtain ⟨x, hx⟩ : ∃ x, le l % 7237005577332262213973186563042994240857116359379907606001950938285454250989 = x := ⟨_, rfl⟩
  rw [hx] at HRL hal
  rw [hx]
  have HMI := Lib.hid (fun w => takeR_any 7237005577332262213973186563042994240857116359379907606001950938285454250989 x (7237005577332262213973186563042994240857116359379907606001950938285454250989 - x) 0 w (by decide) (by omega) (by omega) (by omega) (by decide))
  have HRS := Lib.hid (fun w => small_any (7237005577332262213973186563042994240857116359379907606001950938285454250989 - x) w (by omega))
  obtain ⟨s, hs⟩ : ∃ s, 7237005577332262213973186563042994240857116359379907606001950938285454250989 - x = s := ⟨_, rfl⟩
  rw [hs] at HMI HRS
  rw [hs]
  obtain ⟨t, ht⟩ : ∃ t, s % 7237005577332262213973186563042994240857116359379907606001950938285454250989 = t := ⟨_, rfl⟩
  rw [ht] at HRS
  rw [ht]
  have HNM := Lib.hid (fun w => bytesR_any t w)
  have HSV := Lib.hid (sR s)
  have HSX := Lib.hid (sBr (b32 t) (b32_len _))
  have HOX := Lib.hid (oN (zerB 32) (b32 t) (zerB_len 32) (b32_len _))
  clear hl hx hs ht hal
  have hz := zB
  have hzR := zR
  go_enter Try.func39, Try.ntmps39
  go_upto_region 1 with fail
  generalize hW1 : World.alloc _ _ = W1
  obtain ⟨N, hN⟩ : ∃ n, w.heap.size = n := ⟨_, rfl⟩
  have HR0 := Lib.hid (show BT W1 N 22 l by subst hW1; rw [← hN]; exact (alloc2_at w _ _).1)
  have HRZ := Lib.hid (show BT W1 (N + 1) 22 (zerB 32) by subst hW1; rw [← hN]; exact (alloc2_at w _ _).2)
  have HB := Lib.hid (show Below N w W1 by subst hW1; rw [← hN]; exact ((Below.refl _ w).alloc (Nat.le_refl _) _).alloc (by simp) _)
  have HN := Lib.hid hN
  rw [hN]
  clear hW1 hN
  refine wp_region_upA 9 7 8 [0, 1, 2, 3, 4, 5, 6, 7] _ (.cells (nums .u64 (zer 4)) 64) (by kernel_rfl) (by kernel_rfl) (fun _ _ dst _ _ h => by cases dst <;> exact h) rfl (fun a w K hK => wpOp_of_run rfl rfl (run_allocR a _ rfl w) hK) rfl ?_
  simp only [List.take_succ_cons, List.take_zero, List.drop_succ_cons, List.drop_zero, List.eraseIdx_cons_succ, List.eraseIdx_cons_zero]
  refine upW_call (by rfl) (by rfl) (.agg (nums .u64 (w4 7237005577332262213973186563042994240857116359379907606001950938285454250989))) _ rfl (by simp) (fun p => ?_) ?_
  · go_big_quiet_op
    exact ⟨_, fun q => Calls.ext_of (HOR.out q.x), rfl⟩
  simp only [Act.put, List.setIfInBounds_toArray, List.set]
  refine upW_val (by rfl) (by rfl) (by rfl) (fun K hK => quiet_load_row _ _ rfl N rfl 22 _ (0, 0) _ HR0.out Try.underlying22 rfl HSL.out (hK _ ?_))
  simp only [Act.put, List.setIfInBounds_toArray, List.set]
  refine upW_call (by rfl) (by rfl) (.agg (nums .u64 (w4 (le l)))) _ rfl (by simp) (fun p => ?_) ?_
  · go_big_quiet_op
    exact ⟨_, fun q => Calls.ext_of (HOL.out q.x), rfl⟩
  simp only [Act.put, List.setIfInBounds_toArray, List.set]
  refine upW_call (by rfl) (by rfl) (.agg (nums .u64 (w4 x))) _ rfl (by simp) (fun p => ?_) ?_
  · go_big_quiet_op
    exact ⟨_, fun q => Calls.ext_of (HRL.out q.x), rfl⟩
  simp only [Act.put, List.setIfInBounds_toArray, List.set]
  refine upW_call (by rfl) (by rfl) (.tuple #[.agg (nums .u64 (w4 s)), .int .u64 0]) _ rfl (by simp) (fun p => ?_) ?_
  · go_big_quiet_op
    exact ⟨_, fun q => Calls.ext_of (HMI.out q.x), rfl⟩
  simp only [Act.put, List.setIfInBounds_toArray, List.set]
  refine upW_val (by rfl) (by rfl) (by rfl) ?_
  intro K hK
  go_big_quiet_op
  refine hK _ ?_
  refine upW_late (by rfl) (.agg (nums .u64 (w4 s))) (fun _ => rfl) ?_
  simp only [Act.put, List.setIfInBounds_toArray, List.set]
  refine upW_late (by rfl) (.int .u64 0) (fun _ => rfl) ?_
  simp only [Act.put, List.setIfInBounds_toArray, List.set]
  refine upW_nil (fun M wm hM hbm hom => ?_)
  simp only [List.setIfInBounds_toArray]
  have HOB := Lib.hid hom
  have hMZ := Nat.lt_of_lt_of_le HRZ.out.lt hM
  clear hom
  have HR0x902 := Lib.hid (HR0.out.ext hbm)
  have HRZx902 := Lib.hid (HRZ.out.ext hbm)
  have HBx902 := Lib.hid (HB.out.trans (hbm.mono (show N ≤ _ by have := HRZ.out.lt; omega)))
  clear hbm HR0 HRZ HB
  have HR0 := HR0x902
  have HRZ := HRZx902
  have HB := HBx902
  clear HR0x902 HRZx902 HBx902
  go_wp2_with (refine wpList_store_row rfl 64 _ _ rfl M (nums .u64 (w4 s)) rfl rfl 64 _ HOB.out HSV.out ?hold (nums_one _ _) (Stop.out ?_))
  case hold => rw [size_nums, size_nums, zer_len]; rfl
  generalize hWS : World.setRow _ _ _ = ws
  have HD := Lib.hid (show RW ws M .u64 64 (w4 s) by subst hWS; exact setRow_heap _ _ _ _ _ _ HOB.out)
  have HZ := Lib.hid (show BT ws (N + 1) 22 (zerB 32) by subst hWS; exact HRZ.out.other (setRow_other _ _ _ _ (by omega)))
  have HE := Lib.hid (show Below N w ws by subst hWS; exact Below.setRow HB.out (by omega) _)
  clear hWS HR0 HRZ HB HOB
  have HRZ := HZ
  have HB := HE
  clear HZ HE
  refine ⟨?_⟩
  go_wp2_with (refine wpList_load_row rfl 64 _ rfl M rfl 64 (nums .u64 (w4 s)) (0, 0) _ HD.out Try.underlying64 rfl HSV.out ?_)
  refine (HRS.out _).mono ?_
  rintro e wu9 ⟨rfl, hb9⟩
  have HRZx9 := Lib.hid (HRZ.out.ext hb9)
  have HBx9 := Lib.hid (HB.out.trans (hb9.mono (show N ≤ _ by have := HRZ.out.lt; omega)))
  clear hb9 HRZ HB
  have HRZ := HRZx9
  have HB := HBx9
  clear HRZx9 HBx9
  go_wp2_with fail
  refine (HNM.out _).mono ?_
  rintro e wu10 ⟨rfl, hb10⟩
  have HRZx10 := Lib.hid (HRZ.out.ext hb10)
  have HBx10 := Lib.hid (HB.out.trans (hb10.mono (show N ≤ _ by have := HRZ.out.lt; omega)))
  clear hb10 HRZ HB
  have HRZ := HRZx10
  have HB := HBx10
  clear HRZx10 HBx10
  go_wp2_with (refine wpList_store_row rfl 22 _ _ rfl (N + 1) ((byteVals (b32 t)).toArray) rfl rfl 22 _ HRZ.out HSX.out HOX.out (byteVals_one _) ?_)
  refine bodyPost_ret (results_cell_row (by rfl) _ _ (N + 1) 22 ((byteVals (b32 t)).toArray) (0, 0) _ (by rfl) (setRow_heap _ _ _ _ _ _ HRZ.out) Try.underlying22 rfl HSX.out) rfl ⟨rfl, ?_⟩
  rw [HN.out]
  exact Below.setRow HB.out (by omega) _
theorem mulL_eq (a b c : Nat) : oAdd (a * b % 7237005577332262213973186563042994240857116359379907606001950938285454250989) c = oMul a b c := by unfold oAdd oMul; rw [Nat.mod_add_mod]
theorem mul_b8 (a b : Nat) (ha : a < 115792089237316195423570985008687907853269984665640564039457584007913129639936) (hb : b < 115792089237316195423570985008687907853269984665640564039457584007913129639936) : a * b < 13407807929942597099574024998205846127479365820592393377723561443721764030073546976801874298166903427690031858186486050853753882811946569946433649006084096 := by
  have := mul_bound a b 0 ha hb (by decide); omega
set_option maxRecDepth 100000 in
set_option maxHeartbeats 1000000 in
theorem MulAddL_doc (a b d : List UInt8) (w : World) (ha : a.length = 32) (hb : b.length = 32) (hd : d.length = 32) :
    Calls Try.prog 40 #[.agg (byteVals a).toArray, .agg (byteVals b).toArray, .agg (byteVals d).toArray] w fun e w' => e = .returned (.agg (byteVals (b32 (oMul (le a) (le b) (le d)))).toArray) ∧ Below w.heap.size w w' := by
  have HSA := Lib.hid (sBr a ha)
  have HSB := Lib.hid (sBr b hb)
  have HSD := Lib.hid (sBr d hd)
  have HOA := Lib.hid (fun w => fromR_any a w ha)
  have HOB := Lib.hid (fun w => fromR_any b w hb)
  have HWI := Lib.hid (fun w => wideR_any (le a) (le b) w (le_32 a ha) (le_32 b hb))
  have HRS := Lib.hid (fun w => restL_any (le a * le b) w (mul_b8 _ _ (le_32 a ha) (le_32 b hb)))
  rw [show w8 (le a * le b) = w4 (le a * le b % 115792089237316195423570985008687907853269984665640564039457584007913129639936) ++ w4 (le a * le b / 115792089237316195423570985008687907853269984665640564039457584007913129639936) from rfl] at HRS
  rw [← mulL_eq (le a) (le b) (le d)]
  obtain ⟨q, hq⟩ : ∃ q, w4 (le a * le b % 115792089237316195423570985008687907853269984665640564039457584007913129639936) ++ w4 (le a * le b / 115792089237316195423570985008687907853269984665640564039457584007913129639936) = q := ⟨_, rfl⟩
  rw [hq] at HRS HWI
  have hsl : le a * le b % 7237005577332262213973186563042994240857116359379907606001950938285454250989 < 115792089237316195423570985008687907853269984665640564039457584007913129639936 := by have := Nat.mod_lt (le a * le b) (show 0 < 7237005577332262213973186563042994240857116359379907606001950938285454250989 by decide); omega
  obtain ⟨s, hs⟩ : ∃ s, le a * le b % 7237005577332262213973186563042994240857116359379907606001950938285454250989 = s := ⟨_, rfl⟩
  rw [hs] at HRS hsl
  rw [hs]
  have HBY := Lib.hid (fun w => bytesR_any s w)
  have hle : le (b32 s) = s := le_b32 s hsl
  have hrl : (b32 s).length = 32 := b32_len s
  obtain ⟨r, hr⟩ : ∃ r, b32 s = r := ⟨_, rfl⟩
  rw [hr] at HBY hle hrl
  have HAD := Lib.hid (fun w => AddL_doc r d w hrl hd)
  rw [hle] at HAD
  obtain ⟨t, ht⟩ : ∃ t, oAdd s (le d) = t := ⟨_, rfl⟩
  rw [ht] at HAD
  rw [ht]
  have HSX := Lib.hid (sBr (b32 t) (b32_len _))
  have HOX := Lib.hid (oN (zerB 32) (b32 t) (zerB_len 32) (b32_len _))
  clear ha hb hd hq hs hsl hr hle hrl ht
  have hz := zB
  have hzR := zR
  go_enter Try.func40, Try.ntmps40
  go_upto_region 1 with fail
  generalize hW1 : World.alloc _ _ = W1
  obtain ⟨N, hN⟩ : ∃ n, w.heap.size = n := ⟨_, rfl⟩
  have HR := Lib.hid (show BT W1 N 22 a ∧ BT W1 (N + 1) 22 b ∧ BT W1 (N + 1 + 1) 22 d ∧ BT W1 (N + 1 + 1 + 1) 22 (zerB 32) ∧ Below N w W1 by
    subst hW1; rw [← hN]
    have h3 := alloc3_at w (.cells (byteVals a).toArray 22) (.cells (byteVals b).toArray 22) (.cells (byteVals d).toArray 22)
    have hsz : (((w.alloc (.cells (byteVals a).toArray 22)).alloc (.cells (byteVals b).toArray 22)).alloc (.cells (byteVals d).toArray 22)).heap.size = w.heap.size + 1 + 1 + 1 := by simp
    refine ⟨(Go.heap_alloc_old _ _ (by rw [hsz]; omega)).trans h3.1, (Go.heap_alloc_old _ _ (by rw [hsz]; omega)).trans h3.2.1, (Go.heap_alloc_old _ _ (by rw [hsz]; omega)).trans h3.2.2, ?_, (Below.alloc3 w _ _ _).alloc (by rw [hsz]; omega) _⟩
    rw [← hsz]; exact Go.heap_alloc_new _ _)
  have HR0 := Lib.hid HR.out.1
  have HR1 := Lib.hid HR.out.2.1
  have HR2 := Lib.hid HR.out.2.2.1
  have HRZ := Lib.hid HR.out.2.2.2.1
  have HB := Lib.hid HR.out.2.2.2.2
  clear HR
  have HN := Lib.hid hN
  rw [hN]
  clear hW1 hN
  refine wp_region_up 9 9 (by kernel_rfl) (by kernel_rfl) (fun _ _ dst _ _ h => by cases dst <;> exact h) ?_
  simp only [List.take_succ_cons, List.take_zero, List.drop_succ_cons, List.drop_zero]
  refine upW_val (by rfl) (by rfl) (by rfl) (fun K hK => quiet_load_row _ _ rfl N rfl 22 _ (0, 0) _ HR0.out Try.underlying22 rfl HSA.out (hK _ ?_))
  simp only [Act.put, List.setIfInBounds_toArray, List.set]
  refine upW_call (by rfl) (by rfl) (.agg (nums .u64 (w4 (le a)))) _ rfl (by simp) (fun p => ?_) ?_
  · go_big_quiet_op
    exact ⟨_, fun q => Calls.ext_of (HOA.out q.x), rfl⟩
  simp only [Act.put, List.setIfInBounds_toArray, List.set]
  refine upW_val (by rfl) (by rfl) (by rfl) (fun K hK => quiet_load_row _ _ rfl (N + 1) rfl 22 _ (0, 0) _ HR1.out Try.underlying22 rfl HSB.out (hK _ ?_))
  simp only [Act.put, List.setIfInBounds_toArray, List.set]
  refine upW_call (by rfl) (by rfl) (.agg (nums .u64 (w4 (le b)))) _ rfl (by simp) (fun p => ?_) ?_
  · go_big_quiet_op
    exact ⟨_, fun q => Calls.ext_of (HOB.out q.x), rfl⟩
  simp only [Act.put, List.setIfInBounds_toArray, List.set]
  refine upW_call (by rfl) (by rfl) (.agg (nums .u64 q)) _ rfl (by simp) (fun p => ?_) ?_
  · go_big_quiet_op
    exact ⟨_, fun q => Calls.ext_of (HWI.out q.x), rfl⟩
  simp only [Act.put, List.setIfInBounds_toArray, List.set]
  refine upW_call (by rfl) (by rfl) (.agg (nums .u64 (w4 s))) _ rfl (by simp) (fun p => ?_) ?_
  · go_big_quiet_op
    exact ⟨_, fun q => Calls.ext_of (HRS.out q.x), rfl⟩
  simp only [Act.put, List.setIfInBounds_toArray, List.set]
  refine upW_call (by rfl) (by rfl) (.agg (byteVals r).toArray) _ rfl (by simp) (fun p => ?_) ?_
  · go_big_quiet_op
    exact ⟨_, fun q => Calls.ext_of (HBY.out q.x), rfl⟩
  simp only [Act.put, List.setIfInBounds_toArray, List.set]
  refine upW_val (by rfl) (by rfl) (by rfl) (fun K hK => quiet_load_row _ _ rfl (N + 1 + 1) rfl 22 _ (0, 0) _ HR2.out Try.underlying22 rfl HSD.out (hK _ ?_))
  simp only [Act.put, List.setIfInBounds_toArray, List.set]
  refine upW_call (by rfl) (by rfl) (.agg (byteVals (b32 t)).toArray) _ rfl (by simp) (fun p => ?_) ?_
  · go_big_quiet_op
    exact ⟨_, fun q => Calls.ext_of (HAD.out q.x), rfl⟩
  simp only [Act.put, List.setIfInBounds_toArray, List.set]
  refine upW_nil (fun wy hby => ?_)
  have HR0x903 := Lib.hid (HR0.out.ext hby)
  have HR1x903 := Lib.hid (HR1.out.ext hby)
  have HR2x903 := Lib.hid (HR2.out.ext hby)
  have HRZx903 := Lib.hid (HRZ.out.ext hby)
  have HBx903 := Lib.hid (HB.out.trans (hby.mono (show N ≤ _ by have := HRZ.out.lt; omega)))
  clear hby HR0 HR1 HR2 HRZ HB
  have HR0 := HR0x903
  have HR1 := HR1x903
  have HR2 := HR2x903
  have HRZ := HRZx903
  have HB := HBx903
  clear HR0x903 HR1x903 HR2x903 HRZx903 HBx903
  go_wp2_with (refine wpList_store_row rfl 22 _ _ rfl (N + 1 + 1 + 1) ((byteVals (b32 t)).toArray) rfl rfl 22 _ HRZ.out HSX.out HOX.out (byteVals_one _) ?_)
  refine bodyPost_ret (results_cell_row (by rfl) _ _ (N + 1 + 1 + 1) 22 ((byteVals (b32 t)).toArray) (0, 0) _ (by rfl) (setRow_heap _ _ _ _ _ _ HRZ.out) Try.underlying22 rfl HSX.out) rfl ⟨rfl, ?_⟩
  rw [HN.out]
  exact Below.setRow HB.out (by omega) _
end Go.Proofs.Ytgajheocobgecaa
