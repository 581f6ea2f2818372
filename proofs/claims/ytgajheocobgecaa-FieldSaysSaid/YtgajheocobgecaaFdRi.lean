/-
  The document's exported functions of layer 7.
  Conditions: none.
-/
import Derived.Test.YtgajheocobgecaaFdRh
namespace Go.Proofs.Ytgajheocobgecaa
open Go.RowKit

set_option maxRecDepth 100000 in
set_option maxHeartbeats 1000000 in
theorem Of_doc (n : Nat) (w : World) (hn : n < 18446744073709551616) :
    Calls Try.prog 13 #[.int .u64 n] w fun e w' => e = .returned (.agg (byteVals (b32 n)).toArray) ∧ Below w.heap.size w w' := by
  have HSX := Lib.hid (sBr (b32 n) (b32_len _))
  have HOX := Lib.hid (oN (zerB 32) (b32 n) (zerB_len 32) (b32_len _))
  have HNM := Lib.hid (fun w => bytesR_any n w)
  rw [show w4 n = [n, 0, 0, 0] from w4_of n 0 0 0 n hn (by decide) (by decide) (by decide) (by omega)] at HNM
  clear hn
  have hz := zB
  have hzR := zR
  go_enter Try.func13, Try.ntmps13
  go_upto_region 1 with fail
  generalize hW1 : World.alloc _ _ = W1
  obtain ⟨N, hN⟩ : ∃ n, w.heap.size = n := ⟨_, rfl⟩
  have HRZ := Lib.hid (show BT W1 N 22 (zerB 32) by subst hW1; rw [← hN]; exact Go.heap_alloc_new _ _)
  have HB := Lib.hid (show Below N w W1 by subst hW1; rw [← hN]; exact (Below.refl _ w).alloc (Nat.le_refl _) _)
  have HN := Lib.hid hN
  rw [hN]
  clear hW1 hN
  go_wp2_with (refine wpList_build' rfl 64 _ rfl (nums .u64 [n, 0, 0, 0]) (by kernel_rfl) ?_)
  refine (HNM.out _).mono ?_
  rintro e wu1 ⟨rfl, hb1⟩
  have HRZx1 := Lib.hid (HRZ.out.ext hb1)
  have HBx1 := Lib.hid (HB.out.trans (hb1.mono (show N ≤ _ by have := HRZ.out.lt; omega)))
  clear hb1 HRZ HB
  have HRZ := HRZx1
  have HB := HBx1
  clear HRZx1 HBx1
  go_wp2_with (refine wpList_store_row rfl 22 _ _ rfl N ((byteVals (b32 n)).toArray) rfl rfl 22 _ HRZ.out HSX.out HOX.out (byteVals_one _) ?_)
  refine bodyPost_ret (results_cell_row (by rfl) _ _ N 22 ((byteVals (b32 n)).toArray) (0, 0) _ (by rfl) (setRow_heap _ _ _ _ _ _ HRZ.out) Try.underlying22 rfl HSX.out) rfl ⟨rfl, ?_⟩
  rw [HN.out]
  exact Below.setRow HB.out (by omega) _
set_option maxRecDepth 100000 in
set_option maxHeartbeats 1000000 in
theorem Rest_doc (l : List UInt8) (w : World) (hl : l.length = 32) :
    Calls Try.prog 17 #[.agg (byteVals l).toArray] w fun e w' => e = .returned (.agg (byteVals (b32 (le l % 57896044618658097711785492504343953926634992332820282019728792003956564819949))).toArray) ∧ Below w.heap.size w w' := by
  have HSL := Lib.hid (sBr l hl)
  have HOF := Lib.hid (fun w => fromR_any l w hl)
  have HRE := Lib.hid (fun w => restR_any (le l) w (le_32 l hl))
  obtain ⟨x, hx⟩ : ∃ x, le l % 57896044618658097711785492504343953926634992332820282019728792003956564819949 = x := ⟨_, rfl⟩
  rw [hx] at HRE
  rw [hx]
  have HNM := Lib.hid (fun w => bytesR_any x w)
  have HSX := Lib.hid (sBr (b32 x) (b32_len _))
  have HOX := Lib.hid (oN (zerB 32) (b32 x) (zerB_len 32) (b32_len _))
  clear hl hx
  have hz := zB
  have hzR := zR
  go_enter Try.func17, Try.ntmps17
  go_upto_region 1 with fail
  generalize hW1 : World.alloc _ _ = W1
  obtain ⟨N, hN⟩ : ∃ n, w.heap.size = n := ⟨_, rfl⟩
  have HR0 := Lib.hid (show BT W1 N 22 l by subst hW1; rw [← hN]; exact (alloc2_at w _ _).1)
  have HRZ := Lib.hid (show BT W1 (N + 1) 22 (zerB 32) by subst hW1; rw [← hN]; exact (alloc2_at w _ _).2)
  have HB := Lib.hid (show Below N w W1 by subst hW1; rw [← hN]; exact ((Below.refl _ w).alloc (Nat.le_refl _) _).alloc (by simp) _)
  have HN := Lib.hid hN
  rw [hN]
  clear hW1 hN
  go_wp2_with (refine wpList_load_row rfl 22 _ rfl N rfl 22 ((byteVals l).toArray) (0, 0) _ HR0.out Try.underlying22 rfl HSL.out ?_)
  refine (HOF.out _).mono ?_
  rintro e wu2 ⟨rfl, hb2⟩
  have HR0x2 := Lib.hid (HR0.out.ext hb2)
  have HRZx2 := Lib.hid (HRZ.out.ext hb2)
  have HBx2 := Lib.hid (HB.out.trans (hb2.mono (show N ≤ _ by have := HRZ.out.lt; omega)))
  clear hb2 HR0 HRZ HB
  have HR0 := HR0x2
  have HRZ := HRZx2
  have HB := HBx2
  clear HR0x2 HRZx2 HBx2
  go_wp2_with fail
  refine (HRE.out _).mono ?_
  rintro e wu3 ⟨rfl, hb3⟩
  have HR0x3 := Lib.hid (HR0.out.ext hb3)
  have HRZx3 := Lib.hid (HRZ.out.ext hb3)
  have HBx3 := Lib.hid (HB.out.trans (hb3.mono (show N ≤ _ by have := HRZ.out.lt; omega)))
  clear hb3 HR0 HRZ HB
  have HR0 := HR0x3
  have HRZ := HRZx3
  have HB := HBx3
  clear HR0x3 HRZx3 HBx3
  go_wp2_with fail
  refine (HNM.out _).mono ?_
  rintro e wu4 ⟨rfl, hb4⟩
  have HR0x4 := Lib.hid (HR0.out.ext hb4)
  have HRZx4 := Lib.hid (HRZ.out.ext hb4)
  have HBx4 := Lib.hid (HB.out.trans (hb4.mono (show N ≤ _ by have := HRZ.out.lt; omega)))
  clear hb4 HR0 HRZ HB
  have HR0 := HR0x4
  have HRZ := HRZx4
  have HB := HBx4
  clear HR0x4 HRZx4 HBx4
  go_wp2_with (refine wpList_store_row rfl 22 _ _ rfl (N + 1) ((byteVals (b32 x)).toArray) rfl rfl 22 _ HRZ.out HSX.out HOX.out (byteVals_one _) ?_)
  refine bodyPost_ret (results_cell_row (by rfl) _ _ (N + 1) 22 ((byteVals (b32 x)).toArray) (0, 0) _ (by rfl) (setRow_heap _ _ _ _ _ _ HRZ.out) Try.underlying22 rfl HSX.out) rfl ⟨rfl, ?_⟩
  rw [HN.out]
  exact Below.setRow HB.out (by omega) _
theorem odd_bit (x : Nat) : bits .and .u64 ((wd x 0 : Nat) : Int) 1 = ((x % 2 : Nat) : Int) := by
  rw [and1N (wd x 0) (Nat.mod_lt _ (by decide)), wd0]
set_option maxRecDepth 100000 in
set_option maxHeartbeats 1000000 in
theorem Odd_doc (l : List UInt8) (w : World) (hl : l.length = 32) :
    Calls Try.prog 27 #[.agg (byteVals l).toArray] w fun e w' => e = .returned (.bool (decide (le l % 57896044618658097711785492504343953926634992332820282019728792003956564819949 % 2 = 1))) ∧ Below w.heap.size w w' := by
  have HSL := Lib.hid (sBr l hl)
  have HOF := Lib.hid (fun w => fromR_any l w hl)
  have HRE := Lib.hid (fun w => restR_any (le l) w (le_32 l hl))
  obtain ⟨x, hx⟩ : ∃ x, le l % 57896044618658097711785492504343953926634992332820282019728792003956564819949 = x := ⟨_, rfl⟩
  rw [hx] at HRE
  rw [hx]
  have hbt := odd_bit x
  have h0 : (nums .u64 (w4 x))[0]? = some (.int .u64 ((wd x 0 : Nat) : Int)) := by
    rw [nums_get .u64 _ 0 (by rw [w4_len]; decide), w4_get x 0 (by decide)]
  obtain ⟨d, hd⟩ : ∃ d, wd x 0 = d := ⟨_, rfl⟩
  rw [hd] at hbt h0
  have hix : ∀ w, (Instr.index 64 (.agg (nums .u64 (w4 x))) (.int .i64 0)).run Try.prog w = .ok (.int .u64 (d : Int)) w := fun w => index_arr (P := Try.prog) w 64 23 4 (nums .u64 (w4 x)) .i64 0 (.int .u64 (d : Int)) Try.underlying64 (by kernel_rfl) (by kernel_rfl) (by decide) h0
  have HD2 := Lib.hid (show ((x % 2 : Nat) : Int) = 1 ↔ x % 2 = 1 by omega)
  have hdec : (((x % 2 : Nat) : Int) == 1) = decide (x % 2 = 1) := by rw [Bool.eq_iff_iff]; simp; omega
  obtain ⟨m, hm⟩ : ∃ m, x % 2 = m := ⟨_, rfl⟩
  rw [hm] at hbt hdec ⊢
  have HDEC := Lib.hid hdec
  clear hl hx hd hm hdec HD2 h0
  have hz := zB
  have hzR := zR
  go_enter Try.func27, Try.ntmps27
  go_upto_region 1 with fail
  generalize hW1 : World.alloc _ _ = W1
  obtain ⟨N, hN⟩ : ∃ n, w.heap.size = n := ⟨_, rfl⟩
  have HR0 := Lib.hid (show BT W1 N 22 l by subst hW1; rw [← hN]; exact Go.heap_alloc_new _ _)
  have HB := Lib.hid (show Below N w W1 by subst hW1; rw [← hN]; exact (Below.refl _ w).alloc (Nat.le_refl _) _)
  have HN := Lib.hid hN
  rw [hN]
  clear hW1 hN
  go_wp2_with (refine wpList_load_row rfl 22 _ rfl N rfl 22 ((byteVals l).toArray) (0, 0) _ HR0.out Try.underlying22 rfl HSL.out ?_)
  refine (HOF.out _).mono ?_
  rintro e wu5 ⟨rfl, hb5⟩
  have HR0x5 := Lib.hid (HR0.out.ext hb5)
  have HBx5 := Lib.hid (HB.out.trans (hb5.mono (show N ≤ _ by have := HR0.out.lt; omega)))
  clear hb5 HR0 HB
  have HR0 := HR0x5
  have HB := HBx5
  clear HR0x5 HBx5
  go_wp2_with fail
  refine (HRE.out _).mono ?_
  rintro e wu6 ⟨rfl, hb6⟩
  have HR0x6 := Lib.hid (HR0.out.ext hb6)
  have HBx6 := Lib.hid (HB.out.trans (hb6.mono (show N ≤ _ by have := HR0.out.lt; omega)))
  clear hb6 HR0 HB
  have HR0 := HR0x6
  have HB := HBx6
  clear HR0x6 HBx6
  go_wp2
  go_ret
  exact ⟨congrArg (fun b => Ending.returned (Value.bool b)) HDEC.out, HN.out.symm ▸ HB.out⟩
set_option maxRecDepth 100000 in
set_option maxHeartbeats 1000000 in
theorem Inv_doc (l : List UInt8) (e : Nat) (w : World) (hl : l.length = 32) (he : e = 57896044618658097711785492504343953926634992332820282019728792003956564819947) :
    Calls Try.prog 25 #[.agg (byteVals l).toArray] w fun r w' => r = .returned (.agg (byteVals (b32 ((le l % 57896044618658097711785492504343953926634992332820282019728792003956564819949) ^ e % 57896044618658097711785492504343953926634992332820282019728792003956564819949))).toArray) ∧ Below w.heap.size w w' := by
  have HSL := Lib.hid (sBr l hl)
  have HOF := Lib.hid (fun w => fromR_any l w hl)
  have HRE := Lib.hid (fun w => restR_any (le l) w (le_32 l hl))
  have hal : le l % 57896044618658097711785492504343953926634992332820282019728792003956564819949 < 57896044618658097711785492504343953926634992332820282019728792003956564819949 := Nat.mod_lt _ P_0
  have HIN := Lib.hid (fun w => invR_any (le l % 57896044618658097711785492504343953926634992332820282019728792003956564819949) e w hal he)
  obtain ⟨a, ha⟩ : ∃ x, le l % 57896044618658097711785492504343953926634992332820282019728792003956564819949 = x := ⟨_, rfl⟩
  rw [ha] at HRE HIN
  rw [ha]
  obtain ⟨x, hx⟩ : ∃ x, a ^ e % 57896044618658097711785492504343953926634992332820282019728792003956564819949 = x := ⟨_, rfl⟩
  rw [hx] at HIN
  rw [hx]
  have HNM := Lib.hid (fun w => bytesR_any x w)
  have HSX := Lib.hid (sBr (b32 x) (b32_len _))
  have HOX := Lib.hid (oN (zerB 32) (b32 x) (zerB_len 32) (b32_len _))
  clear hl ha hx hal he
  have hz := zB
  have hzR := zR
  go_enter Try.func25, Try.ntmps25
  go_upto_region 1 with fail
  generalize hW1 : World.alloc _ _ = W1
  obtain ⟨N, hN⟩ : ∃ n, w.heap.size = n := ⟨_, rfl⟩
  have HR0 := Lib.hid (show BT W1 N 22 l by subst hW1; rw [← hN]; exact (alloc2_at w _ _).1)
  have HRZ := Lib.hid (show BT W1 (N + 1) 22 (zerB 32) by subst hW1; rw [← hN]; exact (alloc2_at w _ _).2)
  have HB := Lib.hid (show Below N w W1 by subst hW1; rw [← hN]; exact ((Below.refl _ w).alloc (Nat.le_refl _) _).alloc (by simp) _)
  have HN := Lib.hid hN
  rw [hN]
  clear hW1 hN
  go_wp2_with (refine wpList_load_row rfl 22 _ rfl N rfl 22 ((byteVals l).toArray) (0, 0) _ HR0.out Try.underlying22 rfl HSL.out ?_)
  refine (HOF.out _).mono ?_
  rintro e wu7 ⟨rfl, hb7⟩
  have HR0x7 := Lib.hid (HR0.out.ext hb7)
  have HRZx7 := Lib.hid (HRZ.out.ext hb7)
  have HBx7 := Lib.hid (HB.out.trans (hb7.mono (show N ≤ _ by have := HRZ.out.lt; omega)))
  clear hb7 HR0 HRZ HB
  have HR0 := HR0x7
  have HRZ := HRZx7
  have HB := HBx7
  clear HR0x7 HRZx7 HBx7
  go_wp2_with fail
  refine (HRE.out _).mono ?_
  rintro e wu8 ⟨rfl, hb8⟩
  have HR0x8 := Lib.hid (HR0.out.ext hb8)
  have HRZx8 := Lib.hid (HRZ.out.ext hb8)
  have HBx8 := Lib.hid (HB.out.trans (hb8.mono (show N ≤ _ by have := HRZ.out.lt; omega)))
  clear hb8 HR0 HRZ HB
  have HR0 := HR0x8
  have HRZ := HRZx8
  have HB := HBx8
  clear HR0x8 HRZx8 HBx8
  go_wp2_with fail
  refine (HIN.out _).mono ?_
  rintro e wu9 ⟨rfl, hb9⟩
  have HR0x9 := Lib.hid (HR0.out.ext hb9)
  have HRZx9 := Lib.hid (HRZ.out.ext hb9)
  have HBx9 := Lib.hid (HB.out.trans (hb9.mono (show N ≤ _ by have := HRZ.out.lt; omega)))
  clear hb9 HR0 HRZ HB
  have HR0 := HR0x9
  have HRZ := HRZx9
  have HB := HBx9
  clear HR0x9 HRZx9 HBx9
  go_wp2_with fail
  refine (HNM.out _).mono ?_
  rintro e wu10 ⟨rfl, hb10⟩
  have HR0x10 := Lib.hid (HR0.out.ext hb10)
  have HRZx10 := Lib.hid (HRZ.out.ext hb10)
  have HBx10 := Lib.hid (HB.out.trans (hb10.mono (show N ≤ _ by have := HRZ.out.lt; omega)))
  clear hb10 HR0 HRZ HB
  have HR0 := HR0x10
  have HRZ := HRZx10
  have HB := HBx10
  clear HR0x10 HRZx10 HBx10
  go_wp2_with (refine wpList_store_row rfl 22 _ _ rfl (N + 1) ((byteVals (b32 x)).toArray) rfl rfl 22 _ HRZ.out HSX.out HOX.out (byteVals_one _) ?_)
  refine bodyPost_ret (results_cell_row (by rfl) _ _ (N + 1) 22 ((byteVals (b32 x)).toArray) (0, 0) _ (by rfl) (setRow_heap _ _ _ _ _ _ HRZ.out) Try.underlying22 rfl HSX.out) rfl ⟨rfl, ?_⟩
  rw [HN.out]
  exact Below.setRow HB.out (by omega) _
set_option maxRecDepth 100000 in
set_option maxHeartbeats 1000000 in
theorem Add_doc (l m : List UInt8) (w : World) (hl : l.length = 32) (hm : m.length = 32) :
    Calls Try.prog 19 #[.agg (byteVals l).toArray, .agg (byteVals m).toArray] w fun e w' => e = .returned (.agg (byteVals (b32 (((le l % 57896044618658097711785492504343953926634992332820282019728792003956564819949) + (le m % 57896044618658097711785492504343953926634992332820282019728792003956564819949)) % 57896044618658097711785492504343953926634992332820282019728792003956564819949))).toArray) ∧ Below w.heap.size w w' := by
  have HSL := Lib.hid (sBr l hl)
  have HSM := Lib.hid (sBr m hm)
  have HOL := Lib.hid (fun w => fromR_any l w hl)
  have HOM := Lib.hid (fun w => fromR_any m w hm)
  have HRL := Lib.hid (fun w => restR_any (le l) w (le_32 l hl))
  have HRM := Lib.hid (fun w => restR_any (le m) w (le_32 m hm))
  have hal : le l % 57896044618658097711785492504343953926634992332820282019728792003956564819949 < 57896044618658097711785492504343953926634992332820282019728792003956564819949 := Nat.mod_lt _ P_0
  have hbl : le m % 57896044618658097711785492504343953926634992332820282019728792003956564819949 < 57896044618658097711785492504343953926634992332820282019728792003956564819949 := Nat.mod_lt _ P_0
  have HMI := Lib.hid (fun w => addR_any (le l % 57896044618658097711785492504343953926634992332820282019728792003956564819949) (le m % 57896044618658097711785492504343953926634992332820282019728792003956564819949) w hal hbl)
  obtain ⟨a, ha⟩ : ∃ x, le l % 57896044618658097711785492504343953926634992332820282019728792003956564819949 = x := ⟨_, rfl⟩
  obtain ⟨b, hb⟩ : ∃ x, le m % 57896044618658097711785492504343953926634992332820282019728792003956564819949 = x := ⟨_, rfl⟩
  rw [ha] at HRL HMI
  rw [hb] at HRM HMI
  rw [ha, hb]
  obtain ⟨x, hx⟩ : ∃ x, (a + b) % 57896044618658097711785492504343953926634992332820282019728792003956564819949 = x := ⟨_, rfl⟩
  rw [hx] at HMI
  rw [hx]
  have HNM := Lib.hid (fun w => bytesR_any x w)
  have HSX := Lib.hid (sBr (b32 x) (b32_len _))
  have HOX := Lib.hid (oN (zerB 32) (b32 x) (zerB_len 32) (b32_len _))
  clear hl hm hx ha hb hal hbl
  have hz := zB
  have hzR := zR
  go_enter Try.func19, Try.ntmps19
  go_upto_region 1 with fail
  generalize hW1 : World.alloc _ _ = W1
  obtain ⟨N, hN⟩ : ∃ n, w.heap.size = n := ⟨_, rfl⟩
  have HR0 := Lib.hid (show BT W1 N 22 l by subst hW1; rw [← hN]; exact (alloc3_at w _ _ _).1)
  have HR1 := Lib.hid (show BT W1 (N + 1) 22 m by subst hW1; rw [← hN]; exact (alloc3_at w _ _ _).2.1)
  have HRZ := Lib.hid (show BT W1 (N + 1 + 1) 22 (zerB 32) by subst hW1; rw [← hN]; exact (alloc3_at w _ _ _).2.2)
  have HB := Lib.hid (show Below N w W1 by subst hW1; rw [← hN]; exact Below.alloc3 w _ _ _)
  have HN := Lib.hid hN
  rw [hN]
  clear hW1 hN
  refine wp_region_up 8 8 (by kernel_rfl) (by kernel_rfl) (fun _ _ dst _ _ h => by cases dst <;> exact h) ?_
  simp only [List.take_succ_cons, List.take_zero, List.drop_succ_cons, List.drop_zero]
  refine upW_val (by rfl) (by rfl) (by rfl) (fun K hK => quiet_load_row _ _ rfl N rfl 22 _ (0, 0) _ HR0.out Try.underlying22 rfl HSL.out (hK _ ?_))
  simp only [Act.put, List.setIfInBounds_toArray, List.set]
  refine upW_call (by rfl) (by rfl) (.agg (nums .u64 (w4 (le l)))) _ rfl (by simp) (fun p => ?_) ?_
  · go_big_quiet_op
    exact ⟨_, fun q => Calls.ext_of (HOL.out q.x), rfl⟩
  simp only [Act.put, List.setIfInBounds_toArray, List.set]
  refine upW_call (by rfl) (by rfl) (.agg (nums .u64 (w4 a))) _ rfl (by simp) (fun p => ?_) ?_
  · go_big_quiet_op
    exact ⟨_, fun q => Calls.ext_of (HRL.out q.x), rfl⟩
  simp only [Act.put, List.setIfInBounds_toArray, List.set]
  refine upW_val (by rfl) (by rfl) (by rfl) (fun K hK => quiet_load_row _ _ rfl (N + 1) rfl 22 _ (0, 0) _ HR1.out Try.underlying22 rfl HSM.out (hK _ ?_))
  simp only [Act.put, List.setIfInBounds_toArray, List.set]
  refine upW_call (by rfl) (by rfl) (.agg (nums .u64 (w4 (le m)))) _ rfl (by simp) (fun p => ?_) ?_
  · go_big_quiet_op
    exact ⟨_, fun q => Calls.ext_of (HOM.out q.x), rfl⟩
  simp only [Act.put, List.setIfInBounds_toArray, List.set]
  refine upW_call (by rfl) (by rfl) (.agg (nums .u64 (w4 b))) _ rfl (by simp) (fun p => ?_) ?_
  · go_big_quiet_op
    exact ⟨_, fun q => Calls.ext_of (HRM.out q.x), rfl⟩
  simp only [Act.put, List.setIfInBounds_toArray, List.set]
  refine upW_call (by rfl) (by rfl) (.agg (nums .u64 (w4 x))) _ rfl (by simp) (fun p => ?_) ?_
  · go_big_quiet_op
    exact ⟨_, fun q => Calls.ext_of (HMI.out q.x), rfl⟩
  simp only [Act.put, List.setIfInBounds_toArray, List.set]
  refine upW_call (by rfl) (by rfl) (.agg (byteVals (b32 x)).toArray) _ rfl (by simp) (fun p => ?_) ?_
  · go_big_quiet_op
    exact ⟨_, fun q => Calls.ext_of (HNM.out q.x), rfl⟩
  simp only [Act.put, List.setIfInBounds_toArray, List.set]
  refine upW_nil (fun wy hby => ?_)
  have HR0x903 := Lib.hid (HR0.out.ext hby)
  have HR1x903 := Lib.hid (HR1.out.ext hby)
  have HRZx903 := Lib.hid (HRZ.out.ext hby)
  have HBx903 := Lib.hid (HB.out.trans (hby.mono (show N ≤ _ by have := HRZ.out.lt; omega)))
  clear hby HR0 HR1 HRZ HB
  have HR0 := HR0x903
  have HR1 := HR1x903
  have HRZ := HRZx903
  have HB := HBx903
  clear HR0x903 HR1x903 HRZx903 HBx903
  go_wp2_with (refine wpList_store_row rfl 22 _ _ rfl (N + 1 + 1) ((byteVals (b32 x)).toArray) rfl rfl 22 _ HRZ.out HSX.out HOX.out (byteVals_one _) ?_)
  refine bodyPost_ret (results_cell_row (by rfl) _ _ (N + 1 + 1) 22 ((byteVals (b32 x)).toArray) (0, 0) _ (by rfl) (setRow_heap _ _ _ _ _ _ HRZ.out) Try.underlying22 rfl HSX.out) rfl ⟨rfl, ?_⟩
  rw [HN.out]
  exact Below.setRow HB.out (by omega) _
set_option maxRecDepth 100000 in
set_option maxHeartbeats 1000000 in
theorem Sub_doc (l m : List UInt8) (w : World) (hl : l.length = 32) (hm : m.length = 32) :
    Calls Try.prog 21 #[.agg (byteVals l).toArray, .agg (byteVals m).toArray] w fun e w' => e = .returned (.agg (byteVals (b32 (((le l % 57896044618658097711785492504343953926634992332820282019728792003956564819949) + 57896044618658097711785492504343953926634992332820282019728792003956564819949 - (le m % 57896044618658097711785492504343953926634992332820282019728792003956564819949)) % 57896044618658097711785492504343953926634992332820282019728792003956564819949))).toArray) ∧ Below w.heap.size w w' := by
  have HSL := Lib.hid (sBr l hl)
  have HSM := Lib.hid (sBr m hm)
  have HOL := Lib.hid (fun w => fromR_any l w hl)
  have HOM := Lib.hid (fun w => fromR_any m w hm)
  have HRL := Lib.hid (fun w => restR_any (le l) w (le_32 l hl))
  have HRM := Lib.hid (fun w => restR_any (le m) w (le_32 m hm))
  have hal : le l % 57896044618658097711785492504343953926634992332820282019728792003956564819949 < 57896044618658097711785492504343953926634992332820282019728792003956564819949 := Nat.mod_lt _ P_0
  have hbl : le m % 57896044618658097711785492504343953926634992332820282019728792003956564819949 < 57896044618658097711785492504343953926634992332820282019728792003956564819949 := Nat.mod_lt _ P_0
  have HMI := Lib.hid (fun w => subR_any (le l % 57896044618658097711785492504343953926634992332820282019728792003956564819949) (le m % 57896044618658097711785492504343953926634992332820282019728792003956564819949) w hal hbl)
  obtain ⟨a, ha⟩ : ∃ x, le l % 57896044618658097711785492504343953926634992332820282019728792003956564819949 = x := ⟨_, rfl⟩
  obtain ⟨b, hb⟩ : ∃ x, le m % 57896044618658097711785492504343953926634992332820282019728792003956564819949 = x := ⟨_, rfl⟩
  rw [ha] at HRL HMI
  rw [hb] at HRM HMI
  rw [ha, hb]
  obtain ⟨x, hx⟩ : ∃ x, (a + 57896044618658097711785492504343953926634992332820282019728792003956564819949 - b) % 57896044618658097711785492504343953926634992332820282019728792003956564819949 = x := ⟨_, rfl⟩
  rw [hx] at HMI
  rw [hx]
  have HNM := Lib.hid (fun w => bytesR_any x w)
  have HSX := Lib.hid (sBr (b32 x) (b32_len _))
  have HOX := Lib.hid (oN (zerB 32) (b32 x) (zerB_len 32) (b32_len _))
  clear hl hm hx ha hb hal hbl
  have hz := zB
  have hzR := zR
  go_enter Try.func21, Try.ntmps21
  go_upto_region 1 with fail
  generalize hW1 : World.alloc _ _ = W1
  obtain ⟨N, hN⟩ : ∃ n, w.heap.size = n := ⟨_, rfl⟩
  have HR0 := Lib.hid (show BT W1 N 22 l by subst hW1; rw [← hN]; exact (alloc3_at w _ _ _).1)
  have HR1 := Lib.hid (show BT W1 (N + 1) 22 m by subst hW1; rw [← hN]; exact (alloc3_at w _ _ _).2.1)
  have HRZ := Lib.hid (show BT W1 (N + 1 + 1) 22 (zerB 32) by subst hW1; rw [← hN]; exact (alloc3_at w _ _ _).2.2)
  have HB := Lib.hid (show Below N w W1 by subst hW1; rw [← hN]; exact Below.alloc3 w _ _ _)
  have HN := Lib.hid hN
  rw [hN]
  clear hW1 hN
  refine wp_region_up 8 8 (by kernel_rfl) (by kernel_rfl) (fun _ _ dst _ _ h => by cases dst <;> exact h) ?_
  simp only [List.take_succ_cons, List.take_zero, List.drop_succ_cons, List.drop_zero]
  refine upW_val (by rfl) (by rfl) (by rfl) (fun K hK => quiet_load_row _ _ rfl N rfl 22 _ (0, 0) _ HR0.out Try.underlying22 rfl HSL.out (hK _ ?_))
  simp only [Act.put, List.setIfInBounds_toArray, List.set]
  refine upW_call (by rfl) (by rfl) (.agg (nums .u64 (w4 (le l)))) _ rfl (by simp) (fun p => ?_) ?_
  · go_big_quiet_op
    exact ⟨_, fun q => Calls.ext_of (HOL.out q.x), rfl⟩
  simp only [Act.put, List.setIfInBounds_toArray, List.set]
  refine upW_call (by rfl) (by rfl) (.agg (nums .u64 (w4 a))) _ rfl (by simp) (fun p => ?_) ?_
  · go_big_quiet_op
    exact ⟨_, fun q => Calls.ext_of (HRL.out q.x), rfl⟩
  simp only [Act.put, List.setIfInBounds_toArray, List.set]
  refine upW_val (by rfl) (by rfl) (by rfl) (fun K hK => quiet_load_row _ _ rfl (N + 1) rfl 22 _ (0, 0) _ HR1.out Try.underlying22 rfl HSM.out (hK _ ?_))
  simp only [Act.put, List.setIfInBounds_toArray, List.set]
  refine upW_call (by rfl) (by rfl) (.agg (nums .u64 (w4 (le m)))) _ rfl (by simp) (fun p => ?_) ?_
  · go_big_quiet_op
    exact ⟨_, fun q => Calls.ext_of (HOM.out q.x), rfl⟩
  simp only [Act.put, List.setIfInBounds_toArray, List.set]
  refine upW_call (by rfl) (by rfl) (.agg (nums .u64 (w4 b))) _ rfl (by simp) (fun p => ?_) ?_
  · go_big_quiet_op
    exact ⟨_, fun q => Calls.ext_of (HRM.out q.x), rfl⟩
  simp only [Act.put, List.setIfInBounds_toArray, List.set]
  refine upW_call (by rfl) (by rfl) (.agg (nums .u64 (w4 x))) _ rfl (by simp) (fun p => ?_) ?_
  · go_big_quiet_op
    exact ⟨_, fun q => Calls.ext_of (HMI.out q.x), rfl⟩
  simp only [Act.put, List.setIfInBounds_toArray, List.set]
  refine upW_call (by rfl) (by rfl) (.agg (byteVals (b32 x)).toArray) _ rfl (by simp) (fun p => ?_) ?_
  · go_big_quiet_op
    exact ⟨_, fun q => Calls.ext_of (HNM.out q.x), rfl⟩
  simp only [Act.put, List.setIfInBounds_toArray, List.set]
  refine upW_nil (fun wy hby => ?_)
  have HR0x903 := Lib.hid (HR0.out.ext hby)
  have HR1x903 := Lib.hid (HR1.out.ext hby)
  have HRZx903 := Lib.hid (HRZ.out.ext hby)
  have HBx903 := Lib.hid (HB.out.trans (hby.mono (show N ≤ _ by have := HRZ.out.lt; omega)))
  clear hby HR0 HR1 HRZ HB
  have HR0 := HR0x903
  have HR1 := HR1x903
  have HRZ := HRZx903
  have HB := HBx903
  clear HR0x903 HR1x903 HRZx903 HBx903
  go_wp2_with (refine wpList_store_row rfl 22 _ _ rfl (N + 1 + 1) ((byteVals (b32 x)).toArray) rfl rfl 22 _ HRZ.out HSX.out HOX.out (byteVals_one _) ?_)
  refine bodyPost_ret (results_cell_row (by rfl) _ _ (N + 1 + 1) 22 ((byteVals (b32 x)).toArray) (0, 0) _ (by rfl) (setRow_heap _ _ _ _ _ _ HRZ.out) Try.underlying22 rfl HSX.out) rfl ⟨rfl, ?_⟩
  rw [HN.out]
  exact Below.setRow HB.out (by omega) _
set_option maxRecDepth 100000 in
set_option maxHeartbeats 1000000 in
theorem Mul_doc (l m : List UInt8) (w : World) (hl : l.length = 32) (hm : m.length = 32) :
    Calls Try.prog 23 #[.agg (byteVals l).toArray, .agg (byteVals m).toArray] w fun e w' => e = .returned (.agg (byteVals (b32 ((le l % 57896044618658097711785492504343953926634992332820282019728792003956564819949) * (le m % 57896044618658097711785492504343953926634992332820282019728792003956564819949) % 57896044618658097711785492504343953926634992332820282019728792003956564819949))).toArray) ∧ Below w.heap.size w w' := by
  have HSL := Lib.hid (sBr l hl)
  have HSM := Lib.hid (sBr m hm)
  have HOL := Lib.hid (fun w => fromR_any l w hl)
  have HOM := Lib.hid (fun w => fromR_any m w hm)
  have HRL := Lib.hid (fun w => restR_any (le l) w (le_32 l hl))
  have HRM := Lib.hid (fun w => restR_any (le m) w (le_32 m hm))
  have hal : le l % 57896044618658097711785492504343953926634992332820282019728792003956564819949 < 57896044618658097711785492504343953926634992332820282019728792003956564819949 := Nat.mod_lt _ P_0
  have hbl : le m % 57896044618658097711785492504343953926634992332820282019728792003956564819949 < 57896044618658097711785492504343953926634992332820282019728792003956564819949 := Nat.mod_lt _ P_0
  have HMI := Lib.hid (fun w => mulR_any (le l % 57896044618658097711785492504343953926634992332820282019728792003956564819949) (le m % 57896044618658097711785492504343953926634992332820282019728792003956564819949) w (by omega) (by omega))
  obtain ⟨a, ha⟩ : ∃ x, le l % 57896044618658097711785492504343953926634992332820282019728792003956564819949 = x := ⟨_, rfl⟩
  obtain ⟨b, hb⟩ : ∃ x, le m % 57896044618658097711785492504343953926634992332820282019728792003956564819949 = x := ⟨_, rfl⟩
  rw [ha] at HRL HMI
  rw [hb] at HRM HMI
  rw [ha, hb]
  obtain ⟨x, hx⟩ : ∃ x, a * b % 57896044618658097711785492504343953926634992332820282019728792003956564819949 = x := ⟨_, rfl⟩
  rw [hx] at HMI
  rw [hx]
  have HNM := Lib.hid (fun w => bytesR_any x w)
  have HSX := Lib.hid (sBr (b32 x) (b32_len _))
  have HOX := Lib.hid (oN (zerB 32) (b32 x) (zerB_len 32) (b32_len _))
  clear hl hm hx ha hb hal hbl
  have hz := zB
  have hzR := zR
  go_enter Try.func23, Try.ntmps23
  go_upto_region 1 with fail
  generalize hW1 : World.alloc _ _ = W1
  obtain ⟨N, hN⟩ : ∃ n, w.heap.size = n := ⟨_, rfl⟩
  have HR0 := Lib.hid (show BT W1 N 22 l by subst hW1; rw [← hN]; exact (alloc3_at w _ _ _).1)
  have HR1 := Lib.hid (show BT W1 (N + 1) 22 m by subst hW1; rw [← hN]; exact (alloc3_at w _ _ _).2.1)
  have HRZ := Lib.hid (show BT W1 (N + 1 + 1) 22 (zerB 32) by subst hW1; rw [← hN]; exact (alloc3_at w _ _ _).2.2)
  have HB := Lib.hid (show Below N w W1 by subst hW1; rw [← hN]; exact Below.alloc3 w _ _ _)
  have HN := Lib.hid hN
  rw [hN]
  clear hW1 hN
  refine wp_region_up 8 8 (by kernel_rfl) (by kernel_rfl) (fun _ _ dst _ _ h => by cases dst <;> exact h) ?_
  simp only [List.take_succ_cons, List.take_zero, List.drop_succ_cons, List.drop_zero]
  refine upW_val (by rfl) (by rfl) (by rfl) (fun K hK => quiet_load_row _ _ rfl N rfl 22 _ (0, 0) _ HR0.out Try.underlying22 rfl HSL.out (hK _ ?_))
  simp only [Act.put, List.setIfInBounds_toArray, List.set]
  refine upW_call (by rfl) (by rfl) (.agg (nums .u64 (w4 (le l)))) _ rfl (by simp) (fun p => ?_) ?_
  · go_big_quiet_op
    exact ⟨_, fun q => Calls.ext_of (HOL.out q.x), rfl⟩
  simp only [Act.put, List.setIfInBounds_toArray, List.set]
  refine upW_call (by rfl) (by rfl) (.agg (nums .u64 (w4 a))) _ rfl (by simp) (fun p => ?_) ?_
  · go_big_quiet_op
    exact ⟨_, fun q => Calls.ext_of (HRL.out q.x), rfl⟩
  simp only [Act.put, List.setIfInBounds_toArray, List.set]
  refine upW_val (by rfl) (by rfl) (by rfl) (fun K hK => quiet_load_row _ _ rfl (N + 1) rfl 22 _ (0, 0) _ HR1.out Try.underlying22 rfl HSM.out (hK _ ?_))
  simp only [Act.put, List.setIfInBounds_toArray, List.set]
  refine upW_call (by rfl) (by rfl) (.agg (nums .u64 (w4 (le m)))) _ rfl (by simp) (fun p => ?_) ?_
  · go_big_quiet_op
    exact ⟨_, fun q => Calls.ext_of (HOM.out q.x), rfl⟩
  simp only [Act.put, List.setIfInBounds_toArray, List.set]
  refine upW_call (by rfl) (by rfl) (.agg (nums .u64 (w4 b))) _ rfl (by simp) (fun p => ?_) ?_
  · go_big_quiet_op
    exact ⟨_, fun q => Calls.ext_of (HRM.out q.x), rfl⟩
  simp only [Act.put, List.setIfInBounds_toArray, List.set]
  refine upW_call (by rfl) (by rfl) (.agg (nums .u64 (w4 x))) _ rfl (by simp) (fun p => ?_) ?_
  · go_big_quiet_op
    exact ⟨_, fun q => Calls.ext_of (HMI.out q.x), rfl⟩
  simp only [Act.put, List.setIfInBounds_toArray, List.set]
  refine upW_call (by rfl) (by rfl) (.agg (byteVals (b32 x)).toArray) _ rfl (by simp) (fun p => ?_) ?_
  · go_big_quiet_op
    exact ⟨_, fun q => Calls.ext_of (HNM.out q.x), rfl⟩
  simp only [Act.put, List.setIfInBounds_toArray, List.set]
  refine upW_nil (fun wy hby => ?_)
  have HR0x903 := Lib.hid (HR0.out.ext hby)
  have HR1x903 := Lib.hid (HR1.out.ext hby)
  have HRZx903 := Lib.hid (HRZ.out.ext hby)
  have HBx903 := Lib.hid (HB.out.trans (hby.mono (show N ≤ _ by have := HRZ.out.lt; omega)))
  clear hby HR0 HR1 HRZ HB
  have HR0 := HR0x903
  have HR1 := HR1x903
  have HRZ := HRZx903
  have HB := HBx903
  clear HR0x903 HR1x903 HRZx903 HBx903
  go_wp2_with (refine wpList_store_row rfl 22 _ _ rfl (N + 1 + 1) ((byteVals (b32 x)).toArray) rfl rfl 22 _ HRZ.out HSX.out HOX.out (byteVals_one _) ?_)
  refine bodyPost_ret (results_cell_row (by rfl) _ _ (N + 1 + 1) 22 ((byteVals (b32 x)).toArray) (0, 0) _ (by rfl) (setRow_heap _ _ _ _ _ _ HRZ.out) Try.underlying22 rfl HSX.out) rfl ⟨rfl, ?_⟩
  rw [HN.out]
  exact Below.setRow HB.out (by omega) _
set_option maxRecDepth 100000 in
set_option maxHeartbeats 1000000 in
theorem Root_doc (l : List UInt8) (w : World) (hl : l.length = 32) :
    Calls Try.prog 11 #[.agg (byteVals l).toArray] w fun e w' => e = .returned (.tuple #[.agg (byteVals (b32 (rrt (le l % 57896044618658097711785492504343953926634992332820282019728792003956564819949) 2).1)).toArray, .bool (rrt (le l % 57896044618658097711785492504343953926634992332820282019728792003956564819949) 2).2]) ∧ Below w.heap.size w w' := by
  have HSL := Lib.hid (sBr l hl)
  have HOF := Lib.hid (fun w => fromR_any l w hl)
  have HRE := Lib.hid (fun w => restR_any (le l) w (le_32 l hl))
  have hal : le l % 57896044618658097711785492504343953926634992332820282019728792003956564819949 < 57896044618658097711785492504343953926634992332820282019728792003956564819949 := Nat.mod_lt _ P_0
  have HRO := Lib.hid (fun w => rootR_any (le l % 57896044618658097711785492504343953926634992332820282019728792003956564819949) w hal)
  obtain ⟨a, ha⟩ : ∃ x, le l % 57896044618658097711785492504343953926634992332820282019728792003956564819949 = x := ⟨_, rfl⟩
  rw [ha] at HRE HRO
  rw [ha]
  obtain ⟨⟨n, ok⟩, hrt⟩ : ∃ q, rrt a 2 = q := ⟨_, rfl⟩
  rw [hrt] at HRO
  rw [hrt]
  simp only at HRO ⊢
  have HSN := Lib.hid (sR n)
  have HNM := Lib.hid (fun w => bytesR_any n w)
  have HSX := Lib.hid (sBr (b32 n) (b32_len _))
  have HOX := Lib.hid (oN (zerB 32) (b32 n) (zerB_len 32) (b32_len _))
  clear hl ha hal hrt
  have hz := zB
  have hzR := zR
  go_enter Try.func11, Try.ntmps11
  go_upto_region 1 with fail
  generalize hW1 : World.alloc _ _ = W1
  obtain ⟨N, hN⟩ : ∃ n, w.heap.size = n := ⟨_, rfl⟩
  have HR0 := Lib.hid (show BT W1 N 22 l by subst hW1; rw [← hN]; exact (alloc2_at w _ _).1)
  have HRZ := Lib.hid (show BT W1 (N + 1) 22 (zerB 32) by subst hW1; rw [← hN]; exact (alloc2_at w _ _).2)
  have HB := Lib.hid (show Below N w W1 by subst hW1; rw [← hN]; exact ((Below.refl _ w).alloc (Nat.le_refl _) _).alloc (by simp) _)
  have HN := Lib.hid hN
  rw [hN]
  clear hW1 hN
  go_wp2_with (refine wpList_load_row rfl 22 _ rfl N rfl 22 ((byteVals l).toArray) (0, 0) _ HR0.out Try.underlying22 rfl HSL.out ?_)
  refine (HOF.out _).mono ?_
  rintro e wu11 ⟨rfl, hb11⟩
  have HR0x11 := Lib.hid (HR0.out.ext hb11)
  have HRZx11 := Lib.hid (HRZ.out.ext hb11)
  have HBx11 := Lib.hid (HB.out.trans (hb11.mono (show N ≤ _ by have := HRZ.out.lt; omega)))
  clear hb11 HR0 HRZ HB
  have HR0 := HR0x11
  have HRZ := HRZx11
  have HB := HBx11
  clear HR0x11 HRZx11 HBx11
  go_wp2_with fail
  refine (HRE.out _).mono ?_
  rintro e wu12 ⟨rfl, hb12⟩
  have HR0x12 := Lib.hid (HR0.out.ext hb12)
  have HRZx12 := Lib.hid (HRZ.out.ext hb12)
  have HBx12 := Lib.hid (HB.out.trans (hb12.mono (show N ≤ _ by have := HRZ.out.lt; omega)))
  clear hb12 HR0 HRZ HB
  have HR0 := HR0x12
  have HRZ := HRZx12
  have HB := HBx12
  clear HR0x12 HRZx12 HBx12
  go_wp2_with fail
  refine (HRO.out _).mono ?_
  rintro e wu13 ⟨rfl, hb13⟩
  have HR0x13 := Lib.hid (HR0.out.ext hb13)
  have HRZx13 := Lib.hid (HRZ.out.ext hb13)
  have HBx13 := Lib.hid (HB.out.trans (hb13.mono (show N ≤ _ by have := HRZ.out.lt; omega)))
  clear hb13 HR0 HRZ HB
  have HR0 := HR0x13
  have HRZ := HRZx13
  have HB := HBx13
  clear HR0x13 HRZx13 HBx13
  go_wp2_with (refine wpList_store_row rfl 64 _ _ rfl wu13.heap.size (nums .u64 (w4 n)) rfl rfl 64 _ (Go.heap_alloc_new _ _) HSN.out ?hold (nums_one _ _) (Stop.out ?_))
  case hold => rw [size_nums, size_nums, zer_len, w4_len]
  generalize hWS : World.setRow _ _ _ = ws
  obtain ⟨M, hM⟩ : ∃ n, wu13.heap.size = n := ⟨_, rfl⟩
  have hMN : N + 1 < M := by rw [← hM]; exact HRZ.out.lt
  have HD := Lib.hid (show RW ws M .u64 64 (w4 n) by subst hWS; rw [← hM]; exact setRow_heap _ _ _ _ _ _ (Go.heap_alloc_new _ _))
  have HAZ := Lib.hid (show BT ws (N + 1) 22 (zerB 32) by subst hWS; exact HRZ.out.other ((setRow_other _ _ _ _ (by omega)).trans (Go.heap_alloc_old _ _ HRZ.out.lt)))
  have HE := Lib.hid (show Below N w ws by subst hWS; exact Below.setRow (HB.out.alloc (by omega) _) (by omega) _)
  rw [hM]
  clear hWS hM HR0 HRZ HB
  have HRZ := HAZ
  have HB := HE
  clear HAZ HE
  refine ⟨?_⟩
  go_wp2_with (refine wpList_load_row rfl 64 _ rfl M rfl 64 (nums .u64 (w4 n)) (0, 0) _ HD.out Try.underlying64 rfl HSN.out ?_)
  refine (HNM.out _).mono ?_
  rintro e wu14 ⟨rfl, hb14⟩
  have HRZx14 := Lib.hid (HRZ.out.ext hb14)
  have HBx14 := Lib.hid (HB.out.trans (hb14.mono (show N ≤ _ by have := HRZ.out.lt; omega)))
  clear hb14 HRZ HB
  have HRZ := HRZx14
  have HB := HBx14
  clear HRZx14 HBx14
  go_wp2_with (refine wpList_store_row rfl 22 _ _ rfl (N + 1) ((byteVals (b32 n)).toArray) rfl rfl 22 _ HRZ.out HSX.out HOX.out (byteVals_one _) ?_)
  refine bodyPost_ret (results_cell_slot (p := 2) (q := 3) (by rfl) _ _ (N + 1) 22 ((byteVals (b32 n)).toArray) (0, 0) _ (.bool ok) (by rfl) (setRow_heap _ _ _ _ _ _ HRZ.out) Try.underlying22 rfl HSX.out rfl) rfl ⟨rfl, ?_⟩
  rw [HN.out]
  exact Below.setRow HB.out (by omega) _
theorem run_eqW2 (o : Oper) (ax : Act) (x y : Operand) (t : TypeId) (ho : o.op = .binOp .eql t x y t) (hu : Try.prog.underlying t = some (.array 4 23)) (a b : Nat) (hx : ax.eval x = .agg (nums .u64 (w4 a))) (hy : ax.eval y = .agg (nums .u64 (w4 b))) (ha : a < 115792089237316195423570985008687907853269984665640564039457584007913129639936) (hb : b < 115792089237316195423570985008687907853269984665640564039457584007913129639936) (hm : Try.prog.eqGuardType Try.prog.depth t = false) (c : Bool) (hc : decide (a = b) = c) (w : World) :
    (execOp ax.eval o).run Try.prog w = .ok (.value (.bool c)) w := by
  unfold execOp
  simp only [ho, hx, hy]
  have h : (Op.equal t (.agg (nums .u64 (w4 a))) (.agg (nums .u64 (w4 b)))).run Try.prog w = .ok (decide (a = b)) w := eqW t hu a b ha hb w
  simp [go_sem, binOp, hm, h, hc]
set_option maxRecDepth 100000 in
set_option maxHeartbeats 1000000 in
theorem Good_doc (l : List UInt8) (w : World) (hl : l.length = 32) :
    Calls Try.prog 15 #[.agg (byteVals l).toArray] w fun e w' => e = .returned (.bool (decide (le l < 57896044618658097711785492504343953926634992332820282019728792003956564819949))) ∧ Below w.heap.size w w' := by
  have HSL := Lib.hid (sBr l hl)
  have HOF := Lib.hid (fun w => fromR_any l w hl)
  have HRE := Lib.hid (fun w => restR_any (le l) w (le_32 l hl))
  have HNL := Lib.hid (le_32 l hl)
  have hdec : decide (le l % 57896044618658097711785492504343953926634992332820282019728792003956564819949 = le l) = decide (le l < 57896044618658097711785492504343953926634992332820282019728792003956564819949) := by
    have hp : 0 < 57896044618658097711785492504343953926634992332820282019728792003956564819949 := P_0
    rw [Bool.eq_iff_iff, decide_eq_true_eq, decide_eq_true_eq]
    exact ⟨fun h => by rw [← h]; exact Nat.mod_lt _ hp, fun h => Nat.mod_eq_of_lt h⟩
  have HXL := Lib.hid (show le l % 57896044618658097711785492504343953926634992332820282019728792003956564819949 < 115792089237316195423570985008687907853269984665640564039457584007913129639936 by have := Nat.mod_lt (le l) P_0; omega)
  obtain ⟨b, hb⟩ : ∃ b, decide (le l < 57896044618658097711785492504343953926634992332820282019728792003956564819949) = b := ⟨_, rfl⟩
  rw [hb] at hdec
  rw [hb]
  obtain ⟨n, hn⟩ : ∃ x, le l = x := ⟨_, rfl⟩
  rw [hn] at HOF HRE hdec HXL HNL
  obtain ⟨x, hx⟩ : ∃ x, n % 57896044618658097711785492504343953926634992332820282019728792003956564819949 = x := ⟨_, rfl⟩
  rw [hx] at HRE hdec HXL
  have HDEC := Lib.hid hdec
  clear hl hx hn hb hdec
  have hz := zB
  have hzR := zR
  go_enter Try.func15, Try.ntmps15
  go_upto_region 1 with fail
  generalize hW1 : World.alloc _ _ = W1
  obtain ⟨N, hN⟩ : ∃ n, w.heap.size = n := ⟨_, rfl⟩
  have HR0 := Lib.hid (show BT W1 N 22 l by subst hW1; rw [← hN]; exact Go.heap_alloc_new _ _)
  have HB := Lib.hid (show Below N w W1 by subst hW1; rw [← hN]; exact (Below.refl _ w).alloc (Nat.le_refl _) _)
  have HN := Lib.hid hN
  rw [hN]
  clear hW1 hN
  go_wp2_with fail
  refine wp_region_whole [0, 1, 2, 3, 4, 5, 6] [] [] (by kernel_rfl) (by kernel_rfl) (List.forall_mem_nil _) rfl ?_
  simp only [List.foldl]
  refine upW_val (by rfl) (by rfl) (by rfl) (fun K hK => quiet_load_row _ _ rfl N rfl 22 _ (0, 0) _ HR0.out Try.underlying22 rfl HSL.out (hK _ ?_))
  simp only [Act.put, List.setIfInBounds_toArray, List.set]
  refine upW_call (by rfl) (by rfl) (.agg (nums .u64 (w4 n))) _ rfl (by simp) (fun p => ?_) ?_
  · go_big_quiet_op
    exact ⟨_, fun q => Calls.ext_of (HOF.out q.x), rfl⟩
  simp only [Act.put, List.setIfInBounds_toArray, List.set]
  refine upW_call (by rfl) (by rfl) (.agg (nums .u64 (w4 x))) _ rfl (by simp) (fun p => ?_) ?_
  · go_big_quiet_op
    exact ⟨_, fun q => Calls.ext_of (HRE.out q.x), rfl⟩
  simp only [Act.put, List.setIfInBounds_toArray, List.set]
  refine upW_val (by rfl) (by rfl) (by rfl) (fun K hK => quiet_load_row _ _ rfl N rfl 22 _ (0, 0) _ HR0.out Try.underlying22 rfl HSL.out (hK _ ?_))
  simp only [Act.put, List.setIfInBounds_toArray, List.set]
  refine upW_call (by rfl) (by rfl) (.agg (nums .u64 (w4 n))) _ rfl (by simp) (fun p => ?_) ?_
  · go_big_quiet_op
    exact ⟨_, fun q => Calls.ext_of (HOF.out q.x), rfl⟩
  simp only [Act.put, List.setIfInBounds_toArray, List.set]
  refine upW_late (by rfl) (.bool b) (fun w => run_eqW2 _ _ _ _ 64 rfl Try.underlying64 x n rfl rfl HXL.out HNL.out (by kernel_rfl) b HDEC.out w) ?_
  simp only [Act.put, List.setIfInBounds_toArray, List.set]
  refine upW_val (by rfl) (by rfl) (by rfl) ?_
  intro K hK
  go_big_quiet_op
  refine hK _ ?_
  refine upW_nil ⟨List.forall_mem_nil _, fun M2 wn hM2 hne hby => ?_⟩
  simp only [List.foldr]
  clear hM2 hne M2
  have HR0x990 := Lib.hid (HR0.out.ext hby)
  have HBx990 := Lib.hid (HB.out.trans (hby.mono (show N ≤ _ by have := HR0.out.lt; omega)))
  clear hby HR0 HB
  have HR0 := HR0x990
  have HB := HBx990
  clear HR0x990 HBx990
  go_wp2
  go_ret
  exact ⟨rfl, HN.out.symm ▸ HB.out⟩
end Go.Proofs.Ytgajheocobgecaa
