/-
  Package curve's functions of numbers: Base, Zero, factor, negative, square, squareOfX, onCurve, join, zero.
  Conditions: none.
-/
import Derived.Test.YtfmclkmmkceldaaCvX
namespace Go.Proofs.Ytfmclkmmkceldaa
open Go.RowKit

set_option linter.unusedSimpArgs false
set_option linter.unusedVariables false
/-- A point's number: y, and above it whether x is odd. -/
def encXY (x y : Fp) : Nat := y.val + 57896044618658097711785492504343953926634992332820282019728792003956564819968 * (x.val % 2)
theorem IsN.rw {X : Array Value} {a : Fp} (h : IsN X a) : Rw X 32 := by
  obtain ⟨l, hl, rfl, _⟩ := h
  exact RB_rw hl
set_option maxRecDepth 100000 in
set_option maxHeartbeats 1000000 in
theorem Zero_any  (w : World) :
    Calls Try.prog 12 #[] w fun e w' => e = .returned (.agg (PB 1)) ∧ Below w.heap.size w w' := by
  have hz0 := zPt
  go_enter Try.func12, Try.ntmps12
  go_upto_region 1 with fail
  generalize hW1 : World.alloc _ _ = W1
  obtain ⟨N, hN⟩ : ∃ n, w.heap.size = n := ⟨_, rfl⟩
  have HX0 := Lib.hid (show CT W1 N 24 (PB 0) by subst hW1; rw [← hN]; exact (allocs1_at w _))
  have HB := Lib.hid (show Below N w W1 by subst hW1; rw [← hN]; exact allocs1_below w _)
  have HN := Lib.hid hN
  rw [hN]
  clear hW1 hN
  refine wp_region_seq 1 ?_
  simp only [List.take_succ_cons, List.take_zero, List.drop_succ_cons, List.drop_zero]
  refine upW_late (by rfl) (.agg (PB 1)) (fun w => run_built _ _ _ _ rfl _ (by kernel_rfl) w) ?_
  simp only [Act.put, List.setIfInBounds_toArray, List.set]
  refine upW_nil (fun wr1 hbr1 => ?_)
  replace HX0 := Lib.hid (HX0.out.ext hbr1)
  replace HB := Lib.hid (HB.out.trans (hbr1.mono (show N ≤ _ by have := HB.out.size; have := HN.out; omega)))
  clear hbr1
  refine wpList_store_ct rfl 24 _ _ rfl N (PB 1) rfl rfl 24 (PB 0) 32 HX0.out (by kernel_rfl) (PB_rw 0) (PB_rw 1) rfl (fun wr2 hSwr2 hOwr2 hWwr2 => ?_)
  replace HX0 := Lib.hid hSwr2
  replace HB := Lib.hid (hWwr2 _ _ HB.out (by omega))
  clear hSwr2 hOwr2 hWwr2
  go_wp2
  refine bodyPost_ret (results_ct (by rfl) _ _ N 24 (PB 1) 32 _ (by rfl) HX0.out (PB_rw 1) Try.underlying24 rfl (by kernel_rfl)) rfl ⟨by first | rfl | (rfl), by rw [HN.out]; exact HB.out⟩
set_option maxRecDepth 100000 in
set_option maxHeartbeats 1000000 in
theorem Base_any  (w : World) :
    Calls Try.prog 19 #[] w fun e w' => e = .returned (.agg (PB (encXY cB.x cB.y))) ∧ Below w.heap.size w w' := by
  have hz0 := zPt
  go_enter Try.func19, Try.ntmps19
  go_upto_region 1 with fail
  generalize hW1 : World.alloc _ _ = W1
  obtain ⟨N, hN⟩ : ∃ n, w.heap.size = n := ⟨_, rfl⟩
  have HX0 := Lib.hid (show CT W1 N 24 (PB 0) by subst hW1; rw [← hN]; exact (allocs1_at w _))
  have HB := Lib.hid (show Below N w W1 by subst hW1; rw [← hN]; exact allocs1_below w _)
  have HN := Lib.hid hN
  rw [hN]
  clear hW1 hN
  refine wp_region_seq 1 ?_
  simp only [List.take_succ_cons, List.take_zero, List.drop_succ_cons, List.drop_zero]
  refine upW_late (by rfl) (.agg (PB (encXY cB.x cB.y))) (fun w => run_built _ _ _ _ rfl _ (by kernel_rfl) w) ?_
  simp only [Act.put, List.setIfInBounds_toArray, List.set]
  refine upW_nil (fun wr1 hbr1 => ?_)
  replace HX0 := Lib.hid (HX0.out.ext hbr1)
  replace HB := Lib.hid (HB.out.trans (hbr1.mono (show N ≤ _ by have := HB.out.size; have := HN.out; omega)))
  clear hbr1
  refine wpList_store_ct rfl 24 _ _ rfl N (PB (encXY cB.x cB.y)) rfl rfl 24 (PB 0) 32 HX0.out (by kernel_rfl) (PB_rw 0) (PB_rw (encXY cB.x cB.y)) rfl (fun wr2 hSwr2 hOwr2 hWwr2 => ?_)
  replace HX0 := Lib.hid hSwr2
  replace HB := Lib.hid (hWwr2 _ _ HB.out (by omega))
  clear hSwr2 hOwr2 hWwr2
  go_wp2
  refine bodyPost_ret (results_ct (by rfl) _ _ N 24 (PB (encXY cB.x cB.y)) 32 _ (by rfl) HX0.out (PB_rw (encXY cB.x cB.y)) Try.underlying24 rfl (by kernel_rfl)) rfl ⟨by first | rfl | (rfl), by rw [HN.out]; exact HB.out⟩
set_option maxRecDepth 100000 in
set_option maxHeartbeats 1000000 in
theorem factor_any  (w : World) :
    Calls Try.prog 110 #[] w fun e w' => e = .returned (.agg (NB cD)) ∧ Below w.heap.size w w' := by
  have hz0 := zNu
  go_enter Try.func110, Try.ntmps110
  go_upto_region 1 with fail
  generalize hW1 : World.alloc _ _ = W1
  obtain ⟨N, hN⟩ : ∃ n, w.heap.size = n := ⟨_, rfl⟩
  have HX0 := Lib.hid (show CT W1 N 26 (NB 0) by subst hW1; rw [← hN]; exact (allocs1_at w _))
  have HB := Lib.hid (show Below N w W1 by subst hW1; rw [← hN]; exact allocs1_below w _)
  have HN := Lib.hid hN
  rw [hN]
  clear hW1 hN
  refine wp_region_seq 1 ?_
  simp only [List.take_succ_cons, List.take_zero, List.drop_succ_cons, List.drop_zero]
  refine upW_late (by rfl) (.agg (NB cD)) (fun w => run_built _ _ _ _ rfl _ (by kernel_rfl) w) ?_
  simp only [Act.put, List.setIfInBounds_toArray, List.set]
  refine upW_nil (fun wr1 hbr1 => ?_)
  replace HX0 := Lib.hid (HX0.out.ext hbr1)
  replace HB := Lib.hid (HB.out.trans (hbr1.mono (show N ≤ _ by have := HB.out.size; have := HN.out; omega)))
  clear hbr1
  refine wpList_store_ct rfl 26 _ _ rfl N (NB cD) rfl rfl 26 (NB 0) 32 HX0.out (by kernel_rfl) (NB_rw 0) (NB_rw cD) rfl (fun wr2 hSwr2 hOwr2 hWwr2 => ?_)
  replace HX0 := Lib.hid hSwr2
  replace HB := Lib.hid (hWwr2 _ _ HB.out (by omega))
  clear hSwr2 hOwr2 hWwr2
  go_wp2
  refine bodyPost_ret (results_ct (by rfl) _ _ N 26 (NB cD) 32 _ (by rfl) HX0.out (NB_rw cD) Try.underlying26 rfl (by kernel_rfl)) rfl ⟨by first | rfl | (rfl), by rw [HN.out]; exact HB.out⟩
theorem zero_sub' (a : Fp) : 0 - a = -a := by grind
set_option maxRecDepth 100000 in
set_option maxHeartbeats 1000000 in
theorem IsN.neg {A : Array Value} {a : Fp} (hia : IsN A a) (w : World) :
    Calls Try.prog 68 #[.agg A] w fun e w' => e = .returned (.agg (NB (-a))) ∧ Below w.heap.size w w' := by
  have HIa := Lib.hid hia
  have HRa := Lib.hid hia.rw
  clear hia
  rw [← zero_sub' a]
  obtain ⟨c1, hc1⟩ : ∃ zq : Fp, zq = 0 - a := ⟨_, rfl⟩
  have HE1 := Lib.hid hc1
  clear hc1
  have HQ2 := Lib.hid (fun w => IsN.sub (isN_NB 0) HIa.out w)
  rw [← HE1.out] at HQ2
  have hz0 := zNu
  go_enter Try.func68, Try.ntmps68
  go_upto_region 1 with fail
  generalize hW1 : World.alloc _ _ = W1
  obtain ⟨N, hN⟩ : ∃ n, w.heap.size = n := ⟨_, rfl⟩
  have HX0 := Lib.hid (show CT W1 N 26 A by subst hW1; rw [← hN]; exact (allocs2_at w _ _).1)
  have HX1 := Lib.hid (show CT W1 (N + 1) 26 (NB 0) by subst hW1; rw [← hN]; exact (allocs2_at w _ _).2)
  have HB := Lib.hid (show Below N w W1 by subst hW1; rw [← hN]; exact allocs2_below w _ _)
  have HN := Lib.hid hN
  rw [hN]
  clear hW1 hN
  refine wp_region_seq 3 ?_
  simp only [List.take_succ_cons, List.take_zero, List.drop_succ_cons, List.drop_zero]
  refine upW_late (by rfl) (.agg (NB 0)) (fun w => run_built _ _ _ _ rfl _ (by kernel_rfl) w) ?_
  simp only [Act.put, List.setIfInBounds_toArray, List.set]
  refine upW_val (by rfl) (by rfl) (by rfl) (fun K hK => quiet_load_ct _ _ rfl N rfl 26 A 32 HRa.out _ HX0.out Try.underlying26 rfl (by kernel_rfl) (hK _ ?_))
  simp only [Act.put, List.setIfInBounds_toArray, List.set]
  refine upW_call (by rfl) (by rfl) (.agg (NB c1)) _ rfl (by simp) (fun p => ?_) ?_
  · go_big_quiet_op
    exact ⟨_, fun q => Calls.ext_of (HQ2.out q.x), rfl⟩
  simp only [Act.put, List.setIfInBounds_toArray, List.set]
  refine upW_nil (fun wr1 hbr1 => ?_)
  replace HX0 := Lib.hid (HX0.out.ext hbr1)
  replace HX1 := Lib.hid (HX1.out.ext hbr1)
  replace HB := Lib.hid (HB.out.trans (hbr1.mono (show N ≤ _ by have := HB.out.size; have := HN.out; omega)))
  clear hbr1
  refine wpList_store_ct rfl 26 _ _ rfl (N + 1) (NB c1) rfl rfl 26 (NB 0) 32 HX1.out (by kernel_rfl) (NB_rw 0) (NB_rw c1) rfl (fun wr2 hSwr2 hOwr2 hWwr2 => ?_)
  replace HX1 := Lib.hid hSwr2
  replace HB := Lib.hid (hWwr2 _ _ HB.out (by omega))
  replace HX0 := Lib.hid (HX0.out.other (hOwr2 _ (by omega)))
  clear hSwr2 hOwr2 hWwr2
  go_wp2
  refine bodyPost_ret (results_ct (by rfl) _ _ (N + 1) 26 (NB c1) 32 _ (by rfl) HX1.out (NB_rw c1) Try.underlying26 rfl (by kernel_rfl)) rfl ⟨by first | rfl | (simp only [HE1.out]), by rw [HN.out]; exact HB.out⟩
set_option maxRecDepth 100000 in
set_option maxHeartbeats 1000000 in
theorem IsN.sqr {A : Array Value} {a : Fp} (hia : IsN A a) (w : World) :
    Calls Try.prog 114 #[.agg A] w fun e w' => e = .returned (.agg (NB (a * a))) ∧ Below w.heap.size w w' := by
  have HIa := Lib.hid hia
  have HRa := Lib.hid hia.rw
  clear hia
  obtain ⟨c1, hc1⟩ : ∃ zq : Fp, zq = a * a := ⟨_, rfl⟩
  have HE1 := Lib.hid hc1
  clear hc1
  have HQ2 := Lib.hid (fun w => IsN.mul HIa.out HIa.out w)
  rw [← HE1.out] at HQ2
  have hz0 := zNu
  go_enter Try.func114, Try.ntmps114
  go_upto_region 1 with fail
  generalize hW1 : World.alloc _ _ = W1
  obtain ⟨N, hN⟩ : ∃ n, w.heap.size = n := ⟨_, rfl⟩
  have HX0 := Lib.hid (show CT W1 N 26 A by subst hW1; rw [← hN]; exact (allocs2_at w _ _).1)
  have HX1 := Lib.hid (show CT W1 (N + 1) 26 (NB 0) by subst hW1; rw [← hN]; exact (allocs2_at w _ _).2)
  have HB := Lib.hid (show Below N w W1 by subst hW1; rw [← hN]; exact allocs2_below w _ _)
  have HN := Lib.hid hN
  rw [hN]
  clear hW1 hN
  refine wp_region_seq 3 ?_
  simp only [List.take_succ_cons, List.take_zero, List.drop_succ_cons, List.drop_zero]
  refine upW_val (by rfl) (by rfl) (by rfl) (fun K hK => quiet_load_ct _ _ rfl N rfl 26 A 32 HRa.out _ HX0.out Try.underlying26 rfl (by kernel_rfl) (hK _ ?_))
  simp only [Act.put, List.setIfInBounds_toArray, List.set]
  refine upW_val (by rfl) (by rfl) (by rfl) (fun K hK => quiet_load_ct _ _ rfl N rfl 26 A 32 HRa.out _ HX0.out Try.underlying26 rfl (by kernel_rfl) (hK _ ?_))
  simp only [Act.put, List.setIfInBounds_toArray, List.set]
  refine upW_call (by rfl) (by rfl) (.agg (NB c1)) _ rfl (by simp) (fun p => ?_) ?_
  · go_big_quiet_op
    exact ⟨_, fun q => Calls.ext_of (HQ2.out q.x), rfl⟩
  simp only [Act.put, List.setIfInBounds_toArray, List.set]
  refine upW_nil (fun wr1 hbr1 => ?_)
  replace HX0 := Lib.hid (HX0.out.ext hbr1)
  replace HX1 := Lib.hid (HX1.out.ext hbr1)
  replace HB := Lib.hid (HB.out.trans (hbr1.mono (show N ≤ _ by have := HB.out.size; have := HN.out; omega)))
  clear hbr1
  refine wpList_store_ct rfl 26 _ _ rfl (N + 1) (NB c1) rfl rfl 26 (NB 0) 32 HX1.out (by kernel_rfl) (NB_rw 0) (NB_rw c1) rfl (fun wr2 hSwr2 hOwr2 hWwr2 => ?_)
  replace HX1 := Lib.hid hSwr2
  replace HB := Lib.hid (hWwr2 _ _ HB.out (by omega))
  replace HX0 := Lib.hid (HX0.out.other (hOwr2 _ (by omega)))
  clear hSwr2 hOwr2 hWwr2
  go_wp2
  refine bodyPost_ret (results_ct (by rfl) _ _ (N + 1) 26 (NB c1) 32 _ (by rfl) HX1.out (NB_rw c1) Try.underlying26 rfl (by kernel_rfl)) rfl ⟨by first | rfl | (simp only [HE1.out]), by rw [HN.out]; exact HB.out⟩
set_option maxRecDepth 100000 in
set_option maxHeartbeats 1000000 in
theorem IsN.sqx {A : Array Value} {a : Fp} (hia : IsN A a) (w : World) :
    Calls Try.prog 71 #[.agg A] w fun e w' => e = .returned (.agg (NB ((a * a - 1) * finv (cD * (a * a) + 1)))) ∧ Below w.heap.size w w' := by
  have HIa := Lib.hid hia
  have HRa := Lib.hid hia.rw
  clear hia
  obtain ⟨c1, hc1⟩ : ∃ zq : Fp, zq = a * a := ⟨_, rfl⟩
  have HE1 := Lib.hid hc1
  clear hc1
  have HQ2 := Lib.hid (fun w => IsN.sqr HIa.out w)
  rw [← HE1.out] at HQ2
  obtain ⟨c3, hc3⟩ : ∃ zq : Fp, zq = cD * c1 := ⟨_, rfl⟩
  have HE3 := Lib.hid hc3
  clear hc3
  have HQ4 := Lib.hid (fun w => IsN.mul (isN_NB cD) (isN_NB c1) w)
  rw [← HE3.out] at HQ4
  obtain ⟨c5, hc5⟩ : ∃ zq : Fp, zq = c3 + 1 := ⟨_, rfl⟩
  have HE5 := Lib.hid hc5
  clear hc5
  have HQ6 := Lib.hid (fun w => IsN.add (isN_NB c3) (isN_NB 1) w)
  rw [← HE5.out] at HQ6
  obtain ⟨c7, hc7⟩ : ∃ zq : Fp, zq = c1 - 1 := ⟨_, rfl⟩
  have HE7 := Lib.hid hc7
  clear hc7
  have HQ8 := Lib.hid (fun w => IsN.sub (isN_NB c1) (isN_NB 1) w)
  rw [← HE7.out] at HQ8
  obtain ⟨c9, hc9⟩ : ∃ zq : Fp, zq = finv c5 := ⟨_, rfl⟩
  have HE9 := Lib.hid hc9
  clear hc9
  have HQ10 := Lib.hid (fun w => IsN.inv (isN_NB c5) w)
  rw [← HE9.out] at HQ10
  obtain ⟨c11, hc11⟩ : ∃ zq : Fp, zq = c7 * c9 := ⟨_, rfl⟩
  have HE11 := Lib.hid hc11
  clear hc11
  have HQ12 := Lib.hid (fun w => IsN.mul (isN_NB c7) (isN_NB c9) w)
  rw [← HE11.out] at HQ12
  have hz0 := zNu
  go_enter Try.func71, Try.ntmps71
  go_upto_region 1 with fail
  generalize hW1 : World.alloc _ _ = W1
  obtain ⟨N, hN⟩ : ∃ n, w.heap.size = n := ⟨_, rfl⟩
  have HX0 := Lib.hid (show CT W1 N 26 A by subst hW1; rw [← hN]; exact (allocs2_at w _ _).1)
  have HX1 := Lib.hid (show CT W1 (N + 1) 26 (NB 0) by subst hW1; rw [← hN]; exact (allocs2_at w _ _).2)
  have HB := Lib.hid (show Below N w W1 by subst hW1; rw [← hN]; exact allocs2_below w _ _)
  have HN := Lib.hid hN
  rw [hN]
  clear hW1 hN
  refine wp_region_whole [0, 1, 2] [⟨3, _, 26, (NB 0), 3, 5, _, 26, 6, (NB 1)⟩, ⟨4, _, 26, (NB 0), 4, 6, _, 26, 8, (NB c1)⟩] [6, 5, 4, 3] (by kernel_rfl) (by kernel_rfl) (List.forall_mem_cons.2 ⟨⟨⟨rfl, rfl, rfl, fun a w => alloc_run _ _ zNu a _ rfl w⟩, rfl, rfl, rfl, rfl, (NB_rw 1).info (by kernel_rfl), (NB_rw 0).same (NB_rw 1), (NB_rw 1).one⟩, (List.forall_mem_cons.2 ⟨⟨⟨rfl, rfl, rfl, fun a w => alloc_run _ _ zNu a _ rfl w⟩, rfl, rfl, rfl, rfl, (NB_rw c1).info (by kernel_rfl), (NB_rw 0).same (NB_rw c1), (NB_rw c1).one⟩, (List.forall_mem_nil _)⟩)⟩) rfl ?_
  simp only [List.foldl, List.eraseIdx_cons_succ, List.eraseIdx_cons_zero]
  refine upW_call (by rfl) (by rfl) (.agg (NB 1)) _ rfl (by simp) (fun p => ?_) ?_
  · go_big_quiet_op
    exact ⟨_, fun q => Calls.ext_of (Of_one q.x), rfl⟩
  simp only [Act.put, List.setIfInBounds_toArray, List.set]
  refine upW_val (by rfl) (by rfl) (by rfl) (fun K hK => quiet_load_ct _ _ rfl N rfl 26 A 32 HRa.out _ HX0.out Try.underlying26 rfl (by kernel_rfl) (hK _ ?_))
  simp only [Act.put, List.setIfInBounds_toArray, List.set]
  refine upW_call (by rfl) (by rfl) (.agg (NB c1)) _ rfl (by simp) (fun p => ?_) ?_
  · go_big_quiet_op
    exact ⟨_, fun q => Calls.ext_of (HQ2.out q.x), rfl⟩
  simp only [Act.put, List.setIfInBounds_toArray, List.set]
  refine upW_nil ⟨(List.forall_mem_cons.2 ⟨rfl, (List.forall_mem_cons.2 ⟨rfl, (List.forall_mem_nil _)⟩)⟩), fun M wr1 hM hne hbr1 => ?_⟩
  have hm0 := hM _ (List.mem_cons_self ..)
  have hm1 := hM _ (List.mem_cons_of_mem _ (List.mem_cons_self ..))
  have hn1x01 : M 3 ≠ M 4 := hne _ (List.mem_cons_self ..) _ (List.mem_cons_of_mem _ (List.mem_cons_self ..)) (show (3 : Nat) ≠ 4 by decide)
  clear hM hne
  simp only [List.foldr, pS, Act.put, List.setIfInBounds_toArray, List.set]
  obtain ⟨B1x0, hB1x0⟩ : ∃ m, M 3 = m := ⟨_, rfl⟩
  have HB1x0 := Lib.hid (show CT wr1 B1x0 26 (NB 1) by rw [← hB1x0]; exact hm0.2)
  have hlB1x0X0 : N < B1x0 := by rw [← hB1x0]; exact Nat.lt_of_lt_of_le HX0.out.lt hm0.1
  have hlB1x0X1 : (N + 1) < B1x0 := by rw [← hB1x0]; exact Nat.lt_of_lt_of_le HX1.out.lt hm0.1
  have hNB1x0 : N ≤ B1x0 := by rw [← hB1x0]; exact Nat.le_trans (by have := HB.out.size; have := HN.out; omega) hm0.1
  obtain ⟨B1x1, hB1x1⟩ : ∃ m, M 4 = m := ⟨_, rfl⟩
  have HB1x1 := Lib.hid (show CT wr1 B1x1 26 (NB c1) by rw [← hB1x1]; exact hm1.2)
  have hlB1x1X0 : N < B1x1 := by rw [← hB1x1]; exact Nat.lt_of_lt_of_le HX0.out.lt hm1.1
  have hlB1x1X1 : (N + 1) < B1x1 := by rw [← hB1x1]; exact Nat.lt_of_lt_of_le HX1.out.lt hm1.1
  have hNB1x1 : N ≤ B1x1 := by rw [← hB1x1]; exact Nat.le_trans (by have := HB.out.size; have := HN.out; omega) hm1.1
  rw [hB1x0, hB1x1] at hn1x01
  rw [hB1x0, hB1x1]
  clear hm0 hB1x0 hm1 hB1x1
  replace HX0 := Lib.hid (HX0.out.ext hbr1)
  replace HX1 := Lib.hid (HX1.out.ext hbr1)
  replace HB := Lib.hid (HB.out.trans (hbr1.mono (show N ≤ _ by have := HB.out.size; have := HN.out; omega)))
  clear hbr1
  go_upto_region 2 with fail
  refine wp_region_whole [0, 1, 2, 3, 4] [⟨5, _, 26, (NB 0), 5, 6, _, 26, 13, (NB c5)⟩] [6, 5] (by kernel_rfl) (by kernel_rfl) (List.forall_mem_cons.2 ⟨⟨⟨rfl, rfl, rfl, fun a w => alloc_run _ _ zNu a _ rfl w⟩, rfl, rfl, rfl, rfl, (NB_rw c5).info (by kernel_rfl), (NB_rw 0).same (NB_rw c5), (NB_rw c5).one⟩, (List.forall_mem_nil _)⟩) rfl ?_
  simp only [List.foldl, List.eraseIdx_cons_succ, List.eraseIdx_cons_zero]
  refine upW_call (by rfl) (by rfl) (.agg (NB cD)) _ rfl (by simp) (fun p => ?_) ?_
  · go_big_quiet_op
    exact ⟨_, fun q => Calls.ext_of (factor_any q.x), rfl⟩
  simp only [Act.put, List.setIfInBounds_toArray, List.set]
  refine upW_val (by rfl) (by rfl) (by rfl) (fun K hK => quiet_load_ct _ _ rfl B1x1 rfl 26 (NB c1) 32 (NB_rw c1) _ HB1x1.out Try.underlying26 rfl (by kernel_rfl) (hK _ ?_))
  simp only [Act.put, List.setIfInBounds_toArray, List.set]
  refine upW_call (by rfl) (by rfl) (.agg (NB c3)) _ rfl (by simp) (fun p => ?_) ?_
  · go_big_quiet_op
    exact ⟨_, fun q => Calls.ext_of (HQ4.out q.x), rfl⟩
  simp only [Act.put, List.setIfInBounds_toArray, List.set]
  refine upW_val (by rfl) (by rfl) (by rfl) (fun K hK => quiet_load_ct _ _ rfl B1x0 rfl 26 (NB 1) 32 (NB_rw 1) _ HB1x0.out Try.underlying26 rfl (by kernel_rfl) (hK _ ?_))
  simp only [Act.put, List.setIfInBounds_toArray, List.set]
  refine upW_call (by rfl) (by rfl) (.agg (NB c5)) _ rfl (by simp) (fun p => ?_) ?_
  · go_big_quiet_op
    exact ⟨_, fun q => Calls.ext_of (HQ6.out q.x), rfl⟩
  simp only [Act.put, List.setIfInBounds_toArray, List.set]
  refine upW_nil ⟨(List.forall_mem_cons.2 ⟨rfl, (List.forall_mem_nil _)⟩), fun M wr2 hM hne hbr2 => ?_⟩
  have hm0 := hM _ (List.mem_cons_self ..)
  clear hM hne
  simp only [List.foldr, pS, Act.put, List.setIfInBounds_toArray, List.set]
  obtain ⟨B2x0, hB2x0⟩ : ∃ m, M 5 = m := ⟨_, rfl⟩
  have HB2x0 := Lib.hid (show CT wr2 B2x0 26 (NB c5) by rw [← hB2x0]; exact hm0.2)
  have hlB2x0X0 : N < B2x0 := by rw [← hB2x0]; exact Nat.lt_of_lt_of_le HX0.out.lt hm0.1
  have hlB2x0X1 : (N + 1) < B2x0 := by rw [← hB2x0]; exact Nat.lt_of_lt_of_le HX1.out.lt hm0.1
  have hlB2x0B1x0 : B1x0 < B2x0 := by rw [← hB2x0]; exact Nat.lt_of_lt_of_le HB1x0.out.lt hm0.1
  have hlB2x0B1x1 : B1x1 < B2x0 := by rw [← hB2x0]; exact Nat.lt_of_lt_of_le HB1x1.out.lt hm0.1
  have hNB2x0 : N ≤ B2x0 := by rw [← hB2x0]; exact Nat.le_trans (by have := HB.out.size; have := HN.out; omega) hm0.1
  rw [hB2x0]
  clear hm0 hB2x0
  replace HX0 := Lib.hid (HX0.out.ext hbr2)
  replace HX1 := Lib.hid (HX1.out.ext hbr2)
  replace HB1x0 := Lib.hid (HB1x0.out.ext hbr2)
  replace HB1x1 := Lib.hid (HB1x1.out.ext hbr2)
  replace HB := Lib.hid (HB.out.trans (hbr2.mono (show N ≤ _ by have := HB.out.size; have := HN.out; omega)))
  clear hbr2
  go_upto_region 3 with fail
  refine wp_region_upT 6 _ (by kernel_rfl) (by kernel_rfl) rfl (by kernel_rfl) (fun _ _ dst _ _ h => by cases dst <;> exact h) ?_
  simp only [List.take_succ_cons, List.take_zero, List.drop_succ_cons, List.drop_zero]
  refine upW_val (by rfl) (by rfl) (by rfl) (fun K hK => quiet_load_ct _ _ rfl B1x1 rfl 26 (NB c1) 32 (NB_rw c1) _ HB1x1.out Try.underlying26 rfl (by kernel_rfl) (hK _ ?_))
  simp only [Act.put, List.setIfInBounds_toArray, List.set]
  refine upW_val (by rfl) (by rfl) (by rfl) (fun K hK => quiet_load_ct _ _ rfl B1x0 rfl 26 (NB 1) 32 (NB_rw 1) _ HB1x0.out Try.underlying26 rfl (by kernel_rfl) (hK _ ?_))
  simp only [Act.put, List.setIfInBounds_toArray, List.set]
  refine upW_call (by rfl) (by rfl) (.agg (NB c7)) _ rfl (by simp) (fun p => ?_) ?_
  · go_big_quiet_op
    exact ⟨_, fun q => Calls.ext_of (HQ8.out q.x), rfl⟩
  simp only [Act.put, List.setIfInBounds_toArray, List.set]
  refine upW_val (by rfl) (by rfl) (by rfl) (fun K hK => quiet_load_ct _ _ rfl B2x0 rfl 26 (NB c5) 32 (NB_rw c5) _ HB2x0.out Try.underlying26 rfl (by kernel_rfl) (hK _ ?_))
  simp only [Act.put, List.setIfInBounds_toArray, List.set]
  refine upW_call (by rfl) (by rfl) (.agg (NB c9)) _ rfl (by simp) (fun p => ?_) ?_
  · go_big_quiet_op
    exact ⟨_, fun q => Calls.ext_of (HQ10.out q.x), rfl⟩
  simp only [Act.put, List.setIfInBounds_toArray, List.set]
  refine upW_call (by rfl) (by rfl) (.agg (NB c11)) _ rfl (by simp) (fun p => ?_) ?_
  · go_big_quiet_op
    exact ⟨_, fun q => Calls.ext_of (HQ12.out q.x), rfl⟩
  simp only [Act.put, List.setIfInBounds_toArray, List.set]
  refine upW_nil (fun wr3 hbr3 => ?_)
  replace HX0 := Lib.hid (HX0.out.ext hbr3)
  replace HX1 := Lib.hid (HX1.out.ext hbr3)
  replace HB1x0 := Lib.hid (HB1x0.out.ext hbr3)
  replace HB1x1 := Lib.hid (HB1x1.out.ext hbr3)
  replace HB2x0 := Lib.hid (HB2x0.out.ext hbr3)
  replace HB := Lib.hid (HB.out.trans (hbr3.mono (show N ≤ _ by have := HB.out.size; have := HN.out; omega)))
  clear hbr3
  refine wpList_store_ct rfl 26 _ _ rfl (N + 1) (NB c11) rfl rfl 26 (NB 0) 32 HX1.out (by kernel_rfl) (NB_rw 0) (NB_rw c11) rfl (fun wr4 hSwr4 hOwr4 hWwr4 => ?_)
  replace HX1 := Lib.hid hSwr4
  replace HB := Lib.hid (hWwr4 _ _ HB.out (by omega))
  replace HX0 := Lib.hid (HX0.out.other (hOwr4 _ (by omega)))
  replace HB1x0 := Lib.hid (HB1x0.out.other (hOwr4 _ (by omega)))
  replace HB1x1 := Lib.hid (HB1x1.out.other (hOwr4 _ (by omega)))
  replace HB2x0 := Lib.hid (HB2x0.out.other (hOwr4 _ (by omega)))
  clear hSwr4 hOwr4 hWwr4
  go_wp2
  refine bodyPost_ret (results_ct (by rfl) _ _ (N + 1) 26 (NB c11) 32 _ (by rfl) HX1.out (NB_rw c11) Try.underlying26 rfl (by kernel_rfl)) rfl ⟨by first | rfl | (simp only [HE1.out, HE3.out, HE5.out, HE7.out, HE9.out, HE11.out]), by rw [HN.out]; exact HB.out⟩
end Go.Proofs.Ytfmclkmmkceldaa
