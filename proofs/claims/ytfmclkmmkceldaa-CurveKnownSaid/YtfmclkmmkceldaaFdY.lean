/-
  Package field's Root.
  Conditions: none.
-/
import Derived.Test.YtfmclkmmkceldaaFdX
namespace Go.Proofs.Ytfmclkmmkceldaa
open Go.RowKit

set_option maxRecDepth 100000 in
set_option maxHeartbeats 1000000 in
theorem Root_any (l : List UInt8) (w : World) (hl : l.length = 32) :
    Calls Try.prog 38 #[.agg (byteVals l).toArray] w fun e w' => e = .returned (.tuple #[.agg (byteVals (b32 (fRoot (le l)).1)).toArray, .bool (fRoot (le l)).2]) ∧ Below w.heap.size w w' := by
  have HSL := Lib.hid (sN l hl)
  have HOF := Lib.hid (fun w => ofC_any l w hl)
  have HRE := Lib.hid (fun w => restC_any (le l) w (le_32 l hl))
  have hal : le l % 57896044618658097711785492504343953926634992332820282019728792003956564819949 < 57896044618658097711785492504343953926634992332820282019728792003956564819949 := Nat.mod_lt _ (by decide)
  have HRO := Lib.hid (fun w => rootC_any (le l % 57896044618658097711785492504343953926634992332820282019728792003956564819949) w hal)
  have hnl := rt_lt (le l % 57896044618658097711785492504343953926634992332820282019728792003956564819949) hal
  have HFR := Lib.hid (show fRoot (le l) = if (rt (le l % 57896044618658097711785492504343953926634992332820282019728792003956564819949)).2 = true then (if (rt (le l % 57896044618658097711785492504343953926634992332820282019728792003956564819949)).1 % 2 = 1 then (0 + 57896044618658097711785492504343953926634992332820282019728792003956564819949 - (rt (le l % 57896044618658097711785492504343953926634992332820282019728792003956564819949)).1) % 57896044618658097711785492504343953926634992332820282019728792003956564819949 else (rt (le l % 57896044618658097711785492504343953926634992332820282019728792003956564819949)).1, true) else (0, false) from rfl)
  obtain ⟨a, ha⟩ : ∃ x, le l % 57896044618658097711785492504343953926634992332820282019728792003956564819949 = x := ⟨_, rfl⟩
  rw [ha] at HRE HRO hnl HFR
  obtain ⟨⟨n, ok⟩, hrt⟩ : ∃ q, rt a = q := ⟨_, rfl⟩
  rw [hrt] at HRO hnl HFR
  simp only at HRO hnl HFR
  have HNLT := Lib.hid hnl
  have HSN := Lib.hid (sC n)
  have HODD := Lib.hid (fun w => oddC_any n w)
  clear hl ha hal hrt hnl
  have hz := zN
  have hzC := zC
  go_enter Try.func38, Try.ntmps38
  go_upto_region 1 with fail
  generalize hW1 : World.alloc _ _ = W1
  obtain ⟨N, hN⟩ : ∃ n, w.heap.size = n := ⟨_, rfl⟩
  have HR0 := Lib.hid (show BT W1 N 26 l by subst hW1; rw [← hN]; exact (alloc2_at w _ _).1)
  have HRZ := Lib.hid (show BT W1 (N + 1) 26 (zerB 32) by subst hW1; rw [← hN]; exact (alloc2_at w _ _).2)
  have HB := Lib.hid (show Below N w W1 by subst hW1; rw [← hN]; exact ((Below.refl _ w).alloc (Nat.le_refl _) _).alloc (by simp) _)
  have HN := Lib.hid hN
  rw [hN]
  clear hW1 hN
  go_wp2_with (refine wpList_load_row rfl 26 _ rfl N rfl 26 ((byteVals l).toArray) (0, 0) _ HR0.out Try.underlying26 rfl HSL.out ?_)
  refine (HOF.out _).mono ?_
  rintro e wu1 ⟨rfl, hb1⟩
  have HR0x1 := Lib.hid (HR0.out.ext hb1)
  have HRZx1 := Lib.hid (HRZ.out.ext hb1)
  have HBx1 := Lib.hid (HB.out.trans (hb1.mono (show N ≤ _ by have := HRZ.out.lt; omega)))
  clear hb1 HR0 HRZ HB
  have HR0 := HR0x1
  have HRZ := HRZx1
  have HB := HBx1
  clear HR0x1 HRZx1 HBx1
  go_wp2_with fail
  refine (HRE.out _).mono ?_
  rintro e wu2 ⟨rfl, hb2⟩
  have HR0x2 := Lib.hid (HR0.out.ext hb2)
  have HRZx2 := Lib.hid (HRZ.out.ext hb2)
  have HBx2 := Lib.hid (HB.out.trans (hb2.mono (show N ≤ _ by have := HRZ.out.lt; omega)))
  clear hb2 HR0 HRZ HB
  have HR0 := HR0x2
  have HRZ := HRZx2
  have HB := HBx2
  clear HR0x2 HRZx2 HBx2
  go_wp2_with fail
  refine (HRO.out _).mono ?_
  rintro e wu3 ⟨rfl, hb3⟩
  have HR0x3 := Lib.hid (HR0.out.ext hb3)
  have HRZx3 := Lib.hid (HRZ.out.ext hb3)
  have HBx3 := Lib.hid (HB.out.trans (hb3.mono (show N ≤ _ by have := HRZ.out.lt; omega)))
  clear hb3 HR0 HRZ HB
  have HR0 := HR0x3
  have HRZ := HRZx3
  have HB := HBx3
  clear HR0x3 HRZx3 HBx3
  go_wp2_with (refine wpList_store_row rfl 70 _ _ rfl wu3.heap.size (nums .u64 (w4 n)) rfl rfl 70 _ (Go.heap_alloc_new _ _) HSN.out ?hold (nums_one _ _) (Stop.out ?_))
  case hold => rw [size_nums, size_nums, zer_len, w4_len]
  generalize hWS : World.setRow _ _ _ = ws
  obtain ⟨M, hM⟩ : ∃ n, wu3.heap.size = n := ⟨_, rfl⟩
  have hMN : N + 1 < M := by rw [← hM]; exact HRZ.out.lt
  have HD := Lib.hid (show RW ws M .u64 70 (w4 n) by subst hWS; rw [← hM]; exact setRow_heap _ _ _ _ _ _ (Go.heap_alloc_new _ _))
  have HAZ := Lib.hid (show BT ws (N + 1) 26 (zerB 32) by subst hWS; exact HRZ.out.other ((setRow_other _ _ _ _ (by omega)).trans (Go.heap_alloc_old _ _ HRZ.out.lt)))
  have HE := Lib.hid (show Below N w ws by subst hWS; exact Below.setRow (HB.out.alloc (by omega) _) (by omega) _)
  rw [hM]
  clear hWS hM HR0 HRZ HB
  have HRZ := HAZ
  have HB := HE
  clear HAZ HE
  refine ⟨?_⟩
  cases ok with
  | false =>
    rw [if_neg (by decide)] at HFR
    have HSX := Lib.hid (sN (b32 0) (b32_len _))
    have HOX := Lib.hid (oN (zerB 32) (b32 0) (zerB_len 32) (b32_len _))
    go_wp2_with (first
      | (refine wpList_build' rfl 26 _ rfl ((byteVals (b32 0)).toArray) (by kernel_rfl) ?_)
      | (refine wpList_store_row rfl 26 _ _ rfl (N + 1) ((byteVals (b32 0)).toArray) rfl rfl 26 _ HRZ.out HSX.out HOX.out (byteVals_one _) ?_)
      )
    refine bodyPost_ret (results_cell_slot (p := 2) (q := 3) (by rfl) _ _ (N + 1) 26 ((byteVals (b32 0)).toArray) (0, 0) _ (.bool false) (by rfl) (setRow_heap _ _ _ _ _ _ HRZ.out) Try.underlying26 rfl HSX.out rfl) rfl ⟨by rw [HFR.out], ?_⟩
    rw [HN.out]
    exact Below.setRow HB.out (by omega) _
  | true =>
    rw [if_pos rfl] at HFR
    go_wp2_with (refine wpList_load_row rfl 70 _ rfl M rfl 70 (nums .u64 (w4 n)) (0, 0) _ HD.out Try.underlying70 rfl HSN.out ?_)
    refine (HODD.out _).mono ?_
    rintro e wu4 ⟨rfl, hb4⟩
    have HDx4 := Lib.hid (HD.out.ext hb4)
    have HRZx4 := Lib.hid (HRZ.out.ext hb4)
    have HBx4 := Lib.hid (HB.out.trans (hb4.mono (show N ≤ _ by have := HRZ.out.lt; omega)))
    clear hb4 HD HRZ HB
    have HD := HDx4
    have HRZ := HRZx4
    have HB := HBx4
    clear HDx4 HRZx4 HBx4
    by_cases hodd : n % 2 = 1
    · have hdec : decide (n % 2 = 1) = true := by simpa using hodd
      rw [if_pos hodd] at HFR
      rw [hdec]
      have HMI := Lib.hid (fun w => minusC_any 0 n w (by decide) HNLT.out)
      clear hodd hdec
      obtain ⟨x, hx⟩ : ∃ x, (0 + 57896044618658097711785492504343953926634992332820282019728792003956564819949 - n) % 57896044618658097711785492504343953926634992332820282019728792003956564819949 = x := ⟨_, rfl⟩
      rw [hx] at HMI HFR
      have HSXW := Lib.hid (sC x)
      have HNM := Lib.hid (fun w => numC_any x w)
      have HOW := Lib.hid (show (nums .u64 (w4 n)).size = (nums .u64 (w4 x)).size by rw [size_nums, size_nums, w4_len, w4_len])
      have HSX := Lib.hid (sN (b32 x) (b32_len _))
      have HOX := Lib.hid (oN (zerB 32) (b32 x) (zerB_len 32) (b32_len _))
      clear hx
      go_wp2_with (first
        | (refine wpList_build' rfl 70 _ rfl (nums .u64 (w4 0)) (by kernel_rfl) ?_)
        | (refine wpList_load_row rfl 70 _ rfl M rfl 70 (nums .u64 (w4 n)) (0, 0) _ HD.out Try.underlying70 rfl HSN.out ?_)
        )
      refine (HMI.out _).mono ?_
      rintro e wu5 ⟨rfl, hb5⟩
      have HDx5 := Lib.hid (HD.out.ext hb5)
      have HRZx5 := Lib.hid (HRZ.out.ext hb5)
      have HBx5 := Lib.hid (HB.out.trans (hb5.mono (show N ≤ _ by have := HRZ.out.lt; omega)))
      clear hb5 HD HRZ HB
      have HD := HDx5
      have HRZ := HRZx5
      have HB := HBx5
      clear HDx5 HRZx5 HBx5
      go_wp2_with (refine wpList_store_row rfl 70 _ _ rfl M (nums .u64 (w4 x)) rfl rfl 70 _ HD.out HSXW.out HOW.out (nums_one _ _) (Stop.out ?_))
      generalize hWS : World.setRow _ _ _ = ws2
      have HD2 := Lib.hid (show RW ws2 M .u64 70 (w4 x) by subst hWS; exact setRow_heap _ _ _ _ _ _ HD.out)
      have HAZ := Lib.hid (show BT ws2 (N + 1) 26 (zerB 32) by subst hWS; exact HRZ.out.other (setRow_other _ _ _ _ (by omega)))
      have HE := Lib.hid (show Below N w ws2 by subst hWS; exact Below.setRow HB.out (by omega) _)
      clear hWS HD HRZ HB
      have HRZ := HAZ
      have HB := HE
      clear HAZ HE
      refine ⟨?_⟩
      go_wp2_with (refine wpList_load_row rfl 70 _ rfl M rfl 70 (nums .u64 (w4 x)) (0, 0) _ HD2.out Try.underlying70 rfl HSXW.out ?_)
      refine (HNM.out _).mono ?_
      rintro e wu6 ⟨rfl, hb6⟩
      have HRZx6 := Lib.hid (HRZ.out.ext hb6)
      have HBx6 := Lib.hid (HB.out.trans (hb6.mono (show N ≤ _ by have := HRZ.out.lt; omega)))
      clear hb6 HRZ HB
      have HRZ := HRZx6
      have HB := HBx6
      clear HRZx6 HBx6
      go_wp2_with (refine wpList_store_row rfl 26 _ _ rfl (N + 1) ((byteVals (b32 x)).toArray) rfl rfl 26 _ HRZ.out HSX.out HOX.out (byteVals_one _) ?_)
      refine bodyPost_ret (results_cell_slot (p := 2) (q := 3) (by rfl) _ _ (N + 1) 26 ((byteVals (b32 x)).toArray) (0, 0) _ (.bool true) (by rfl) (setRow_heap _ _ _ _ _ _ HRZ.out) Try.underlying26 rfl HSX.out rfl) rfl ⟨by rw [HFR.out], ?_⟩
      rw [HN.out]
      exact Below.setRow HB.out (by omega) _
    · have hdec : decide (n % 2 = 1) = false := by simpa using hodd
      rw [if_neg hodd] at HFR
      rw [hdec]
      clear hodd hdec
      have HNM := Lib.hid (fun w => numC_any n w)
      have HSX := Lib.hid (sN (b32 n) (b32_len _))
      have HOX := Lib.hid (oN (zerB 32) (b32 n) (zerB_len 32) (b32_len _))
      go_wp2_with (refine wpList_load_row rfl 70 _ rfl M rfl 70 (nums .u64 (w4 n)) (0, 0) _ HD.out Try.underlying70 rfl HSN.out ?_)
      refine (HNM.out _).mono ?_
      rintro e wu7 ⟨rfl, hb7⟩
      have HRZx7 := Lib.hid (HRZ.out.ext hb7)
      have HBx7 := Lib.hid (HB.out.trans (hb7.mono (show N ≤ _ by have := HRZ.out.lt; omega)))
      clear hb7 HRZ HB
      have HRZ := HRZx7
      have HB := HBx7
      clear HRZx7 HBx7
      go_wp2_with (refine wpList_store_row rfl 26 _ _ rfl (N + 1) ((byteVals (b32 n)).toArray) rfl rfl 26 _ HRZ.out HSX.out HOX.out (byteVals_one _) ?_)
      refine bodyPost_ret (results_cell_slot (p := 2) (q := 3) (by rfl) _ _ (N + 1) 26 ((byteVals (b32 n)).toArray) (0, 0) _ (.bool true) (by rfl) (setRow_heap _ _ _ _ _ _ HRZ.out) Try.underlying26 rfl HSX.out rfl) rfl ⟨by rw [HFR.out], ?_⟩
      rw [HN.out]
      exact Below.setRow HB.out (by omega) _
end Go.Proofs.Ytfmclkmmkceldaa
