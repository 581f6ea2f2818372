/-
  Package curve's functions of numbers: Base, Zero, factor, negative, square, squareOfX, onCurve, join, zero.
  Numbers of eight words (plain): their words, sums, one byte more.
  Package scalar: minus, plus of eight words, the order; the document's order.
  One byte out of 32: read, written; a point's last byte.
  Conditions: none.
-/
import Derived.Test.YtlpchgoaoglhcaaDoorMb07
import Derived.Test.YtlpchgoaoglhcaaDoorMb01
import Derived.Test.YtlpchgoaoglhcaaDoorMb03
import Derived.Test.YtlpchgoaoglhcaaDoorMb05
namespace Go.Proofs.YtlpchgoaoglhcaaDoor
open Go.RowKit
set_option linter.unusedSimpArgs false
set_option linter.unusedVariables false
/-- A point's number: y, and above it whether x is odd. -/
def encXY (x y : Fp) : Nat := y.val + 57896044618658097711785492504343953926634992332820282019728792003956564819968 * (x.val % 2)
theorem IsN.rw {X : Array Value} {a : Fp} (h : IsN X a) : Rw X 32 := by
  obtain ⟨l, hl, rfl, _⟩ := h
  exact RB_rw hl
set_option maxRecDepth 100000 in
set_option maxHeartbeats 1000000 in
theorem Base_any  (w : World) :
    Calls Tryd.prog 50 #[] w fun e w' => e = .returned (.agg (PB (encXY cB.x cB.y))) ∧ Below w.heap.size w w' := by
  have hz0 := zPt
  go_enter Tryd.func50, Tryd.ntmps50
  go_upto_region 1 with fail
  generalize hW1 : World.alloc _ _ = W1
  obtain ⟨N, hN⟩ : ∃ n, w.heap.size = n := ⟨_, rfl⟩
  have HX0 := Lib.hid (show CT W1 N 68 (PB 0) by subst hW1; rw [← hN]; exact (allocs1_at w _))
  have HB := Lib.hid (show Below N w W1 by subst hW1; rw [← hN]; exact allocs1_below w _)
  have HN := Lib.hid hN
  rw [hN]
  clear hW1 hN
  refine wp_region_seq 1 ?_
  simp only [List.take_succ_cons, List.take_zero, List.drop_succ_cons, List.drop_zero]
  refine upW_late (by rfl) (.agg (PB (encXY cB.x cB.y))) (fun w => run_built _ _ _ _ rfl _ (by kernel_rfl) w) ?_
  simp only [Act.put, List.setIfInBounds_toArray, List.set]
  refine upW_nil (fun wr1 hbr1 => ?_)
  replace HX0 := Lib.hid (HX0.out.ext hbr1)
  replace HB := Lib.hid (HB.out.trans (hbr1.mono (show N ≤ _ by have := HB.out.size; have := HN.out; omega)))
  clear hbr1
  refine wpList_store_ct rfl 68 _ _ rfl N (PB (encXY cB.x cB.y)) rfl rfl 68 (PB 0) 32 HX0.out (by kernel_rfl) (PB_rw 0) (PB_rw (encXY cB.x cB.y)) rfl (fun wr2 hSwr2 hOwr2 hWwr2 => ?_)
  replace HX0 := Lib.hid hSwr2
  replace HB := Lib.hid (hWwr2 _ _ HB.out (by omega))
  clear hSwr2 hOwr2 hWwr2
  go_wp2
  refine bodyPost_ret (results_ct (by rfl) _ _ N 68 (PB (encXY cB.x cB.y)) 32 _ (by rfl) HX0.out (PB_rw (encXY cB.x cB.y)) Tryd.underlying68 rfl (by kernel_rfl)) rfl ⟨by first | rfl | (rfl), by rw [HN.out]; exact HB.out⟩
set_option maxRecDepth 100000 in
set_option maxHeartbeats 1000000 in
theorem factor_any  (w : World) :
    Calls Tryd.prog 83 #[] w fun e w' => e = .returned (.agg (NB cD)) ∧ Below w.heap.size w w' := by
  have hz0 := zNu
  go_enter Tryd.func83, Tryd.ntmps83
  go_upto_region 1 with fail
  generalize hW1 : World.alloc _ _ = W1
  obtain ⟨N, hN⟩ : ∃ n, w.heap.size = n := ⟨_, rfl⟩
  have HX0 := Lib.hid (show CT W1 N 102 (NB 0) by subst hW1; rw [← hN]; exact (allocs1_at w _))
  have HB := Lib.hid (show Below N w W1 by subst hW1; rw [← hN]; exact allocs1_below w _)
  have HN := Lib.hid hN
  rw [hN]
  clear hW1 hN
  refine wp_region_seq 1 ?_
  simp only [List.take_succ_cons, List.take_zero, List.drop_succ_cons, List.drop_zero]
  refine upW_late (by rfl) (.agg (NB cD)) (fun w => run_built _ _ _ _ rfl _ (by kernel_rfl) w) ?_
  simp only [Act.put, List.setIfInBounds_toArray, List.set]
  refine upW_nil (fun wr1 hbr1 => ?_)
  replace HX0 := Lib.hid (HX0.out.ext hbr1)
  replace HB := Lib.hid (HB.out.trans (hbr1.mono (show N ≤ _ by have := HB.out.size; have := HN.out; omega)))
  clear hbr1
  refine wpList_store_ct rfl 102 _ _ rfl N (NB cD) rfl rfl 102 (NB 0) 32 HX0.out (by kernel_rfl) (NB_rw 0) (NB_rw cD) rfl (fun wr2 hSwr2 hOwr2 hWwr2 => ?_)
  replace HX0 := Lib.hid hSwr2
  replace HB := Lib.hid (hWwr2 _ _ HB.out (by omega))
  clear hSwr2 hOwr2 hWwr2
  go_wp2
  refine bodyPost_ret (results_ct (by rfl) _ _ N 102 (NB cD) 32 _ (by rfl) HX0.out (NB_rw cD) Tryd.underlying102 rfl (by kernel_rfl)) rfl ⟨by first | rfl | (rfl), by rw [HN.out]; exact HB.out⟩
theorem zero_sub' (a : Fp) : 0 - a = -a := by grind
set_option maxRecDepth 100000 in
set_option maxHeartbeats 1000000 in
theorem IsN.neg {A : Array Value} {a : Fp} (hia : IsN A a) (w : World) :
    Calls Tryd.prog 58 #[.agg A] w fun e w' => e = .returned (.agg (NB (-a))) ∧ Below w.heap.size w w' := by
  have HIa := Lib.hid hia
  have HRa := Lib.hid hia.rw
  clear hia
  rw [← zero_sub' a]
  obtain ⟨c1, hc1⟩ : ∃ zq : Fp, zq = 0 - a := ⟨_, rfl⟩
  have HE1 := Lib.hid hc1
  clear hc1
  have HQ2 := Lib.hid (fun w => IsN.sub (isN_NB 0) HIa.out w)
  rw [← HE1.out] at HQ2
  have hz0 := zNu
  go_enter Tryd.func58, Tryd.ntmps58
  go_upto_region 1 with fail
  generalize hW1 : World.alloc _ _ = W1
  obtain ⟨N, hN⟩ : ∃ n, w.heap.size = n := ⟨_, rfl⟩
  have HX0 := Lib.hid (show CT W1 N 102 A by subst hW1; rw [← hN]; exact (allocs2_at w _ _).1)
  have HX1 := Lib.hid (show CT W1 (N + 1) 102 (NB 0) by subst hW1; rw [← hN]; exact (allocs2_at w _ _).2)
  have HB := Lib.hid (show Below N w W1 by subst hW1; rw [← hN]; exact allocs2_below w _ _)
  have HN := Lib.hid hN
  rw [hN]
  clear hW1 hN
  refine wp_region_seq 3 ?_
  simp only [List.take_succ_cons, List.take_zero, List.drop_succ_cons, List.drop_zero]
  refine upW_late (by rfl) (.agg (NB 0)) (fun w => run_built _ _ _ _ rfl _ (by kernel_rfl) w) ?_
  simp only [Act.put, List.setIfInBounds_toArray, List.set]
  refine upW_val (by rfl) (by rfl) (by rfl) (fun K hK => quiet_load_ct _ _ rfl N rfl 102 A 32 HRa.out _ HX0.out Tryd.underlying102 rfl (by kernel_rfl) (hK _ ?_))
  simp only [Act.put, List.setIfInBounds_toArray, List.set]
  refine upW_call (by rfl) (by rfl) (.agg (NB c1)) _ rfl (by simp) (fun p => ?_) ?_
  · go_big_quiet_op
    exact ⟨_, fun q => Calls.ext_of (HQ2.out q.x), rfl⟩
  simp only [Act.put, List.setIfInBounds_toArray, List.set]
  refine upW_nil (fun wr1 hbr1 => ?_)
  replace HX0 := Lib.hid (HX0.out.ext hbr1)
  replace HX1 := Lib.hid (HX1.out.ext hbr1)
  replace HB := Lib.hid (HB.out.trans (hbr1.mono (show N ≤ _ by have := HB.out.size; have := HN.out; omega)))
  clear hbr1
  refine wpList_store_ct rfl 102 _ _ rfl (N + 1) (NB c1) rfl rfl 102 (NB 0) 32 HX1.out (by kernel_rfl) (NB_rw 0) (NB_rw c1) rfl (fun wr2 hSwr2 hOwr2 hWwr2 => ?_)
  replace HX1 := Lib.hid hSwr2
  replace HB := Lib.hid (hWwr2 _ _ HB.out (by omega))
  replace HX0 := Lib.hid (HX0.out.other (hOwr2 _ (by omega)))
  clear hSwr2 hOwr2 hWwr2
  go_wp2
  refine bodyPost_ret (results_ct (by rfl) _ _ (N + 1) 102 (NB c1) 32 _ (by rfl) HX1.out (NB_rw c1) Tryd.underlying102 rfl (by kernel_rfl)) rfl ⟨by first | rfl | (simp only [HE1.out]), by rw [HN.out]; exact HB.out⟩
set_option maxRecDepth 100000 in
set_option maxHeartbeats 1000000 in
theorem IsN.sqr {A : Array Value} {a : Fp} (hia : IsN A a) (w : World) :
    Calls Tryd.prog 97 #[.agg A] w fun e w' => e = .returned (.agg (NB (a * a))) ∧ Below w.heap.size w w' := by
  have HIa := Lib.hid hia
  have HRa := Lib.hid hia.rw
  clear hia
  obtain ⟨c1, hc1⟩ : ∃ zq : Fp, zq = a * a := ⟨_, rfl⟩
  have HE1 := Lib.hid hc1
  clear hc1
  have HQ2 := Lib.hid (fun w => IsN.mul HIa.out HIa.out w)
  rw [← HE1.out] at HQ2
  have hz0 := zNu
  go_enter Tryd.func97, Tryd.ntmps97
  go_upto_region 1 with fail
  generalize hW1 : World.alloc _ _ = W1
  obtain ⟨N, hN⟩ : ∃ n, w.heap.size = n := ⟨_, rfl⟩
  have HX0 := Lib.hid (show CT W1 N 102 A by subst hW1; rw [← hN]; exact (allocs2_at w _ _).1)
  have HX1 := Lib.hid (show CT W1 (N + 1) 102 (NB 0) by subst hW1; rw [← hN]; exact (allocs2_at w _ _).2)
  have HB := Lib.hid (show Below N w W1 by subst hW1; rw [← hN]; exact allocs2_below w _ _)
  have HN := Lib.hid hN
  rw [hN]
  clear hW1 hN
  refine wp_region_seq 3 ?_
  simp only [List.take_succ_cons, List.take_zero, List.drop_succ_cons, List.drop_zero]
  refine upW_val (by rfl) (by rfl) (by rfl) (fun K hK => quiet_load_ct _ _ rfl N rfl 102 A 32 HRa.out _ HX0.out Tryd.underlying102 rfl (by kernel_rfl) (hK _ ?_))
  simp only [Act.put, List.setIfInBounds_toArray, List.set]
  refine upW_val (by rfl) (by rfl) (by rfl) (fun K hK => quiet_load_ct _ _ rfl N rfl 102 A 32 HRa.out _ HX0.out Tryd.underlying102 rfl (by kernel_rfl) (hK _ ?_))
  simp only [Act.put, List.setIfInBounds_toArray, List.set]
  refine upW_call (by rfl) (by rfl) (.agg (NB c1)) _ rfl (by simp) (fun p => ?_) ?_
  · go_big_quiet_op
    exact ⟨_, fun q => Calls.ext_of (HQ2.out q.x), rfl⟩
  simp only [Act.put, List.setIfInBounds_toArray, List.set]
  refine upW_nil (fun wr1 hbr1 => ?_)
  replace HX0 := Lib.hid (HX0.out.ext hbr1)
  replace HX1 := Lib.hid (HX1.out.ext hbr1)
  replace HB := Lib.hid (HB.out.trans (hbr1.mono (show N ≤ _ by have := HB.out.size; have := HN.out; omega)))
  clear hbr1
  refine wpList_store_ct rfl 102 _ _ rfl (N + 1) (NB c1) rfl rfl 102 (NB 0) 32 HX1.out (by kernel_rfl) (NB_rw 0) (NB_rw c1) rfl (fun wr2 hSwr2 hOwr2 hWwr2 => ?_)
  replace HX1 := Lib.hid hSwr2
  replace HB := Lib.hid (hWwr2 _ _ HB.out (by omega))
  replace HX0 := Lib.hid (HX0.out.other (hOwr2 _ (by omega)))
  clear hSwr2 hOwr2 hWwr2
  go_wp2
  refine bodyPost_ret (results_ct (by rfl) _ _ (N + 1) 102 (NB c1) 32 _ (by rfl) HX1.out (NB_rw c1) Tryd.underlying102 rfl (by kernel_rfl)) rfl ⟨by first | rfl | (simp only [HE1.out]), by rw [HN.out]; exact HB.out⟩
set_option maxRecDepth 100000 in
set_option maxHeartbeats 1000000 in
theorem IsN.sqx {A : Array Value} {a : Fp} (hia : IsN A a) (w : World) :
    Calls Tryd.prog 72 #[.agg A] w fun e w' => e = .returned (.agg (NB ((a * a - 1) * finv (cD * (a * a) + 1)))) ∧ Below w.heap.size w w' := by
  have HIa := Lib.hid hia
  have HRa := Lib.hid hia.rw
  clear hia
  obtain ⟨c1, hc1⟩ : ∃ zq : Fp, zq = a * a := ⟨_, rfl⟩
  have HE1 := Lib.hid hc1
  clear hc1
  have HQ2 := Lib.hid (fun w => IsN.sqr HIa.out w)
  rw [← HE1.out] at HQ2
  obtain ⟨c3, hc3⟩ : ∃ zq : Fp, zq = cD * c1 := ⟨_, rfl⟩
  have HE3 := Lib.hid hc3
  clear hc3
  have HQ4 := Lib.hid (fun w => IsN.mul (isN_NB cD) (isN_NB c1) w)
  rw [← HE3.out] at HQ4
  obtain ⟨c5, hc5⟩ : ∃ zq : Fp, zq = c3 + 1 := ⟨_, rfl⟩
  have HE5 := Lib.hid hc5
  clear hc5
  have HQ6 := Lib.hid (fun w => IsN.add (isN_NB c3) (isN_NB 1) w)
  rw [← HE5.out] at HQ6
  obtain ⟨c7, hc7⟩ : ∃ zq : Fp, zq = c1 - 1 := ⟨_, rfl⟩
  have HE7 := Lib.hid hc7
  clear hc7
  have HQ8 := Lib.hid (fun w => IsN.sub (isN_NB c1) (isN_NB 1) w)
  rw [← HE7.out] at HQ8
  obtain ⟨c9, hc9⟩ : ∃ zq : Fp, zq = finv c5 := ⟨_, rfl⟩
  have HE9 := Lib.hid hc9
  clear hc9
  have HQ10 := Lib.hid (fun w => IsN.inv (isN_NB c5) w)
  rw [← HE9.out] at HQ10
  obtain ⟨c11, hc11⟩ : ∃ zq : Fp, zq = c7 * c9 := ⟨_, rfl⟩
  have HE11 := Lib.hid hc11
  clear hc11
  have HQ12 := Lib.hid (fun w => IsN.mul (isN_NB c7) (isN_NB c9) w)
  rw [← HE11.out] at HQ12
  have hz0 := zNu
  go_enter Tryd.func72, Tryd.ntmps72
  go_upto_region 1 with fail
  generalize hW1 : World.alloc _ _ = W1
  obtain ⟨N, hN⟩ : ∃ n, w.heap.size = n := ⟨_, rfl⟩
  have HX0 := Lib.hid (show CT W1 N 102 A by subst hW1; rw [← hN]; exact (allocs2_at w _ _).1)
  have HX1 := Lib.hid (show CT W1 (N + 1) 102 (NB 0) by subst hW1; rw [← hN]; exact (allocs2_at w _ _).2)
  have HB := Lib.hid (show Below N w W1 by subst hW1; rw [← hN]; exact allocs2_below w _ _)
  have HN := Lib.hid hN
  rw [hN]
  clear hW1 hN
  refine wp_region_whole [0, 1, 2] [⟨3, _, 102, (NB 0), 3, 5, _, 102, 6, (NB 1)⟩, ⟨4, _, 102, (NB 0), 4, 6, _, 102, 8, (NB c1)⟩] [6, 5, 4, 3] (by kernel_rfl) (by kernel_rfl) (List.forall_mem_cons.2 ⟨⟨⟨rfl, rfl, rfl, fun a w => alloc_run _ _ zNu a _ rfl w⟩, rfl, rfl, rfl, rfl, (NB_rw 1).info (by kernel_rfl), (NB_rw 0).same (NB_rw 1), (NB_rw 1).one⟩, (List.forall_mem_cons.2 ⟨⟨⟨rfl, rfl, rfl, fun a w => alloc_run _ _ zNu a _ rfl w⟩, rfl, rfl, rfl, rfl, (NB_rw c1).info (by kernel_rfl), (NB_rw 0).same (NB_rw c1), (NB_rw c1).one⟩, (List.forall_mem_nil _)⟩)⟩) rfl ?_
  simp only [List.foldl, List.eraseIdx_cons_succ, List.eraseIdx_cons_zero]
  refine upW_call (by rfl) (by rfl) (.agg (NB 1)) _ rfl (by simp) (fun p => ?_) ?_
  · go_big_quiet_op
    exact ⟨_, fun q => Calls.ext_of (Of_one q.x), rfl⟩
  simp only [Act.put, List.setIfInBounds_toArray, List.set]
  refine upW_val (by rfl) (by rfl) (by rfl) (fun K hK => quiet_load_ct _ _ rfl N rfl 102 A 32 HRa.out _ HX0.out Tryd.underlying102 rfl (by kernel_rfl) (hK _ ?_))
  simp only [Act.put, List.setIfInBounds_toArray, List.set]
  refine upW_call (by rfl) (by rfl) (.agg (NB c1)) _ rfl (by simp) (fun p => ?_) ?_
  · go_big_quiet_op
    exact ⟨_, fun q => Calls.ext_of (HQ2.out q.x), rfl⟩
  simp only [Act.put, List.setIfInBounds_toArray, List.set]
  refine upW_nil ⟨(List.forall_mem_cons.2 ⟨rfl, (List.forall_mem_cons.2 ⟨rfl, (List.forall_mem_nil _)⟩)⟩), fun M wr1 hM hne hbr1 => ?_⟩
  have hm0 := hM _ (List.mem_cons_self ..)
  have hm1 := hM _ (List.mem_cons_of_mem _ (List.mem_cons_self ..))
  have hn1x01 : M 3 ≠ M 4 := hne _ (List.mem_cons_self ..) _ (List.mem_cons_of_mem _ (List.mem_cons_self ..)) (show (3 : Nat) ≠ 4 by decide)
  clear hM hne
  simp only [List.foldr, pS, Act.put, List.setIfInBounds_toArray, List.set]
  obtain ⟨B1x0, hB1x0⟩ : ∃ m, M 3 = m := ⟨_, rfl⟩
  have HB1x0 := Lib.hid (show CT wr1 B1x0 102 (NB 1) by rw [← hB1x0]; exact hm0.2)
  have hlB1x0X0 : N < B1x0 := by rw [← hB1x0]; exact Nat.lt_of_lt_of_le HX0.out.lt hm0.1
  have hlB1x0X1 : (N + 1) < B1x0 := by rw [← hB1x0]; exact Nat.lt_of_lt_of_le HX1.out.lt hm0.1
  have hNB1x0 : N ≤ B1x0 := by rw [← hB1x0]; exact Nat.le_trans (by have := HB.out.size; have := HN.out; omega) hm0.1
  obtain ⟨B1x1, hB1x1⟩ : ∃ m, M 4 = m := ⟨_, rfl⟩
  have HB1x1 := Lib.hid (show CT wr1 B1x1 102 (NB c1) by rw [← hB1x1]; exact hm1.2)
  have hlB1x1X0 : N < B1x1 := by rw [← hB1x1]; exact Nat.lt_of_lt_of_le HX0.out.lt hm1.1
  have hlB1x1X1 : (N + 1) < B1x1 := by rw [← hB1x1]; exact Nat.lt_of_lt_of_le HX1.out.lt hm1.1
  have hNB1x1 : N ≤ B1x1 := by rw [← hB1x1]; exact Nat.le_trans (by have := HB.out.size; have := HN.out; omega) hm1.1
  rw [hB1x0, hB1x1] at hn1x01
  rw [hB1x0, hB1x1]
  clear hm0 hB1x0 hm1 hB1x1
  replace HX0 := Lib.hid (HX0.out.ext hbr1)
  replace HX1 := Lib.hid (HX1.out.ext hbr1)
  replace HB := Lib.hid (HB.out.trans (hbr1.mono (show N ≤ _ by have := HB.out.size; have := HN.out; omega)))
  clear hbr1
  go_upto_region 2 with fail
  refine wp_region_whole [0, 1, 2, 3, 4] [⟨5, _, 102, (NB 0), 5, 6, _, 102, 13, (NB c5)⟩] [6, 5] (by kernel_rfl) (by kernel_rfl) (List.forall_mem_cons.2 ⟨⟨⟨rfl, rfl, rfl, fun a w => alloc_run _ _ zNu a _ rfl w⟩, rfl, rfl, rfl, rfl, (NB_rw c5).info (by kernel_rfl), (NB_rw 0).same (NB_rw c5), (NB_rw c5).one⟩, (List.forall_mem_nil _)⟩) rfl ?_
  simp only [List.foldl, List.eraseIdx_cons_succ, List.eraseIdx_cons_zero]
  refine upW_call (by rfl) (by rfl) (.agg (NB cD)) _ rfl (by simp) (fun p => ?_) ?_
  · go_big_quiet_op
    exact ⟨_, fun q => Calls.ext_of (factor_any q.x), rfl⟩
  simp only [Act.put, List.setIfInBounds_toArray, List.set]
  refine upW_val (by rfl) (by rfl) (by rfl) (fun K hK => quiet_load_ct _ _ rfl B1x1 rfl 102 (NB c1) 32 (NB_rw c1) _ HB1x1.out Tryd.underlying102 rfl (by kernel_rfl) (hK _ ?_))
  simp only [Act.put, List.setIfInBounds_toArray, List.set]
  refine upW_call (by rfl) (by rfl) (.agg (NB c3)) _ rfl (by simp) (fun p => ?_) ?_
  · go_big_quiet_op
    exact ⟨_, fun q => Calls.ext_of (HQ4.out q.x), rfl⟩
  simp only [Act.put, List.setIfInBounds_toArray, List.set]
  refine upW_val (by rfl) (by rfl) (by rfl) (fun K hK => quiet_load_ct _ _ rfl B1x0 rfl 102 (NB 1) 32 (NB_rw 1) _ HB1x0.out Tryd.underlying102 rfl (by kernel_rfl) (hK _ ?_))
  simp only [Act.put, List.setIfInBounds_toArray, List.set]
  refine upW_call (by rfl) (by rfl) (.agg (NB c5)) _ rfl (by simp) (fun p => ?_) ?_
  · go_big_quiet_op
    exact ⟨_, fun q => Calls.ext_of (HQ6.out q.x), rfl⟩
  simp only [Act.put, List.setIfInBounds_toArray, List.set]
  refine upW_nil ⟨(List.forall_mem_cons.2 ⟨rfl, (List.forall_mem_nil _)⟩), fun M wr2 hM hne hbr2 => ?_⟩
  have hm0 := hM _ (List.mem_cons_self ..)
  clear hM hne
  simp only [List.foldr, pS, Act.put, List.setIfInBounds_toArray, List.set]
  obtain ⟨B2x0, hB2x0⟩ : ∃ m, M 5 = m := ⟨_, rfl⟩
  have HB2x0 := Lib.hid (show CT wr2 B2x0 102 (NB c5) by rw [← hB2x0]; exact hm0.2)
  have hlB2x0X0 : N < B2x0 := by rw [← hB2x0]; exact Nat.lt_of_lt_of_le HX0.out.lt hm0.1
  have hlB2x0X1 : (N + 1) < B2x0 := by rw [← hB2x0]; exact Nat.lt_of_lt_of_le HX1.out.lt hm0.1
  have hlB2x0B1x0 : B1x0 < B2x0 := by rw [← hB2x0]; exact Nat.lt_of_lt_of_le HB1x0.out.lt hm0.1
  have hlB2x0B1x1 : B1x1 < B2x0 := by rw [← hB2x0]; exact Nat.lt_of_lt_of_le HB1x1.out.lt hm0.1
  have hNB2x0 : N ≤ B2x0 := by rw [← hB2x0]; exact Nat.le_trans (by have := HB.out.size; have := HN.out; omega) hm0.1
  rw [hB2x0]
  clear hm0 hB2x0
  replace HX0 := Lib.hid (HX0.out.ext hbr2)
  replace HX1 := Lib.hid (HX1.out.ext hbr2)
  replace HB1x0 := Lib.hid (HB1x0.out.ext hbr2)
  replace HB1x1 := Lib.hid (HB1x1.out.ext hbr2)
  replace HB := Lib.hid (HB.out.trans (hbr2.mono (show N ≤ _ by have := HB.out.size; have := HN.out; omega)))
  clear hbr2
  go_upto_region 3 with fail
  refine wp_region_upT 6 _ (by kernel_rfl) (by kernel_rfl) rfl (by kernel_rfl) (fun _ _ dst _ _ h => by cases dst <;> exact h) ?_
  simp only [List.take_succ_cons, List.take_zero, List.drop_succ_cons, List.drop_zero]
  refine upW_val (by rfl) (by rfl) (by rfl) (fun K hK => quiet_load_ct _ _ rfl B1x1 rfl 102 (NB c1) 32 (NB_rw c1) _ HB1x1.out Tryd.underlying102 rfl (by kernel_rfl) (hK _ ?_))
  simp only [Act.put, List.setIfInBounds_toArray, List.set]
  refine upW_val (by rfl) (by rfl) (by rfl) (fun K hK => quiet_load_ct _ _ rfl B1x0 rfl 102 (NB 1) 32 (NB_rw 1) _ HB1x0.out Tryd.underlying102 rfl (by kernel_rfl) (hK _ ?_))
  simp only [Act.put, List.setIfInBounds_toArray, List.set]
  refine upW_call (by rfl) (by rfl) (.agg (NB c7)) _ rfl (by simp) (fun p => ?_) ?_
  · go_big_quiet_op
    exact ⟨_, fun q => Calls.ext_of (HQ8.out q.x), rfl⟩
  simp only [Act.put, List.setIfInBounds_toArray, List.set]
  refine upW_val (by rfl) (by rfl) (by rfl) (fun K hK => quiet_load_ct _ _ rfl B2x0 rfl 102 (NB c5) 32 (NB_rw c5) _ HB2x0.out Tryd.underlying102 rfl (by kernel_rfl) (hK _ ?_))
  simp only [Act.put, List.setIfInBounds_toArray, List.set]
  refine upW_call (by rfl) (by rfl) (.agg (NB c9)) _ rfl (by simp) (fun p => ?_) ?_
  · go_big_quiet_op
    exact ⟨_, fun q => Calls.ext_of (HQ10.out q.x), rfl⟩
  simp only [Act.put, List.setIfInBounds_toArray, List.set]
  refine upW_call (by rfl) (by rfl) (.agg (NB c11)) _ rfl (by simp) (fun p => ?_) ?_
  · go_big_quiet_op
    exact ⟨_, fun q => Calls.ext_of (HQ12.out q.x), rfl⟩
  simp only [Act.put, List.setIfInBounds_toArray, List.set]
  refine upW_nil (fun wr3 hbr3 => ?_)
  replace HX0 := Lib.hid (HX0.out.ext hbr3)
  replace HX1 := Lib.hid (HX1.out.ext hbr3)
  replace HB1x0 := Lib.hid (HB1x0.out.ext hbr3)
  replace HB1x1 := Lib.hid (HB1x1.out.ext hbr3)
  replace HB2x0 := Lib.hid (HB2x0.out.ext hbr3)
  replace HB := Lib.hid (HB.out.trans (hbr3.mono (show N ≤ _ by have := HB.out.size; have := HN.out; omega)))
  clear hbr3
  refine wpList_store_ct rfl 102 _ _ rfl (N + 1) (NB c11) rfl rfl 102 (NB 0) 32 HX1.out (by kernel_rfl) (NB_rw 0) (NB_rw c11) rfl (fun wr4 hSwr4 hOwr4 hWwr4 => ?_)
  replace HX1 := Lib.hid hSwr4
  replace HB := Lib.hid (hWwr4 _ _ HB.out (by omega))
  replace HX0 := Lib.hid (HX0.out.other (hOwr4 _ (by omega)))
  replace HB1x0 := Lib.hid (HB1x0.out.other (hOwr4 _ (by omega)))
  replace HB1x1 := Lib.hid (HB1x1.out.other (hOwr4 _ (by omega)))
  replace HB2x0 := Lib.hid (HB2x0.out.other (hOwr4 _ (by omega)))
  clear hSwr4 hOwr4 hWwr4
  go_wp2
  refine bodyPost_ret (results_ct (by rfl) _ _ (N + 1) 102 (NB c11) 32 _ (by rfl) HX1.out (NB_rw c11) Tryd.underlying102 rfl (by kernel_rfl)) rfl ⟨by first | rfl | (simp only [HE1.out, HE3.out, HE5.out, HE7.out, HE9.out, HE11.out]), by rw [HN.out]; exact HB.out⟩
end Go.Proofs.YtlpchgoaoglhcaaDoor
namespace Go.Proofs.YtlpchgoaoglhcaaDoor
/-- The eight words of a number. -/
def w8 (n : Nat) : List Nat := w4 (n % 115792089237316195423570985008687907853269984665640564039457584007913129639936) ++ w4 (n / 115792089237316195423570985008687907853269984665640564039457584007913129639936)
theorem w8n_len (n : Nat) : (w8 n).length = 8 := rfl
theorem wd_low (n i : Nat) (h : i < 4) : wd (n % 115792089237316195423570985008687907853269984665640564039457584007913129639936) i = wd n i := by
  unfold wd
  rw [show (115792089237316195423570985008687907853269984665640564039457584007913129639936 : Nat) = 18446744073709551616 ^ i * 18446744073709551616 ^ (4 - i) by rw [← Nat.pow_add, show i + (4 - i) = 4 by omega], Nat.mod_mul_right_div_self,
    show 4 - i = (3 - i) + 1 by omega, Nat.pow_succ, Nat.mul_comm (18446744073709551616 ^ (3 - i)), Nat.mod_mul_right_mod]
theorem wd_high (n i : Nat) : wd (n / 115792089237316195423570985008687907853269984665640564039457584007913129639936) i = wd n (4 + i) := by
  unfold wd
  rw [Nat.pow_add, show (18446744073709551616 : Nat) ^ 4 = 115792089237316195423570985008687907853269984665640564039457584007913129639936 by decide, Nat.div_div_eq_div_mul]
theorem w8_wd (n : Nat) : w8 n = (List.range 8).map (wd n) := by
  unfold w8
  rw [w4_wd, w4_wd]
  simp only [List.range, List.range.loop, List.map, List.cons_append, List.nil_append, wd_high, wd_low n 0 (by decide), wd_low n 1 (by decide), wd_low n 2 (by decide), wd_low n 3 (by decide)]
theorem w8n_get (n i : Nat) (h : i < 8) : (w8 n).getD i 0 = wd n i := by
  rw [w8_wd]
  simp [List.getD_eq_getElem?_getD, h]
theorem wd_lt (n i : Nat) : wd n i < 18446744073709551616 := Nat.mod_lt _ (by decide)
theorem w8_lt (n i : Nat) : (w8 n).getD i 0 < 18446744073709551616 := by
  by_cases h : i < 8
  · rw [w8n_get n i h]; exact wd_lt n i
  · rw [List.getD_eq_getElem?_getD, List.getElem?_eq_none (by rw [w8n_len]; omega)]; decide
theorem nv_w8 (n : Nat) (h : n < 13407807929942597099574024998205846127479365820592393377723561443721764030073546976801874298166903427690031858186486050853753882811946569946433649006084096) : nv (w8 n) = n := by
  unfold w8
  rw [nv_append, nv_w4 _ (Nat.mod_lt _ (by decide)), nv_w4 _ (Nat.div_lt_of_lt_mul h), w4_len, show (18446744073709551616 : Nat) ^ 4 = 115792089237316195423570985008687907853269984665640564039457584007913129639936 by decide, Nat.mod_add_div]
theorem w8_of (l : List Nat) (n : Nat) (hl : l.length = 8) (h : ∀ i, l.getD i 0 < 18446744073709551616) (hn : nv l = n) : l = w8 n := by
  subst hn; exact w8_nv l hl h
theorem w8_w4 (n : Nat) (h : n < 115792089237316195423570985008687907853269984665640564039457584007913129639936) : w8 n = w4 n ++ [0, 0, 0, 0] := by
  unfold w8
  rw [Nat.mod_eq_of_lt h, Nat.div_eq_of_lt h]
  rfl
/-! ### Sums -/
/-- What goes over into word k of a sum that begins with a carry; the word. -/
def adb (b : Nat) (l m : List Nat) : Nat → Nat
  | 0 => b
  | k + 1 => (l.getD k 0 + m.getD k 0 + adb b l m k) / 18446744073709551616
def adt (b : Nat) (l m : List Nat) (k : Nat) : Nat := (l.getD k 0 + m.getD k 0 + adb b l m k) % 18446744073709551616
theorem adb_le (b : Nat) (l m : List Nat) (hb : b ≤ 1) (hl : ∀ i, l.getD i 0 < 18446744073709551616) (hm : ∀ i, m.getD i 0 < 18446744073709551616) : ∀ k, adb b l m k ≤ 1
  | 0 => hb
  | k + 1 => by
    have := adb_le b l m hb hl hm k
    have h1 := hl k
    have h2 := hm k
    simp only [adb]
    omega
def nvk (l : List Nat) (k : Nat) : Nat := nv ((List.range k).map fun i => l.getD i 0)
theorem nv_snoc (f : Nat → Nat) (k : Nat) : nv ((List.range (k + 1)).map f) = nv ((List.range k).map f) + 18446744073709551616 ^ k * f k := by
  rw [List.range_succ, List.map_append, nv_append]
  simp [nv]
theorem adt_sum (b : Nat) (l m : List Nat) : ∀ k, nv ((List.range k).map (adt b l m)) + 18446744073709551616 ^ k * adb b l m k = nvk l k + nvk m k + b
  | 0 => by simp [nvk, nv, adb]
  | k + 1 => by
    have ih := adt_sum b l m k
    unfold nvk at ih ⊢
    rw [nv_snoc, nv_snoc (fun i => l.getD i 0), nv_snoc (fun i => m.getD i 0)]
    have e := Nat.mod_add_div (l.getD k 0 + m.getD k 0 + adb b l m k) 18446744073709551616
    have e2 : 18446744073709551616 ^ k * adt b l m k + 18446744073709551616 ^ (k + 1) * adb b l m (k + 1) = 18446744073709551616 ^ k * l.getD k 0 + 18446744073709551616 ^ k * m.getD k 0 + 18446744073709551616 ^ k * adb b l m k := by
      rw [Nat.pow_succ, Nat.mul_assoc, ← Nat.mul_add, ← Nat.mul_add, ← Nat.mul_add]
      congr 1
    generalize nv ((List.range k).map (adt b l m)) = A at ih ⊢
    generalize nv ((List.range k).map fun i => l.getD i 0) = B at ih ⊢
    generalize nv ((List.range k).map fun i => m.getD i 0) = C at ih ⊢
    generalize 18446744073709551616 ^ k * adt b l m k = D at e2 ⊢
    generalize 18446744073709551616 ^ (k + 1) * adb b l m (k + 1) = E at e2 ⊢
    generalize 18446744073709551616 ^ k * adb b l m k = F at e2 ih
    generalize 18446744073709551616 ^ k * l.getD k 0 = G at e2 ⊢
    generalize 18446744073709551616 ^ k * m.getD k 0 = H at e2 ⊢
    omega
theorem range_get (l : List Nat) (n : Nat) (h : l.length = n) : (List.range n).map (fun i => l.getD i 0) = l := by
  subst h
  apply List.ext_getElem?
  intro i
  by_cases hi : i < l.length
  · simp [hi, List.getD_eq_getElem?_getD]
  · rw [List.getElem?_eq_none (by simpa using hi), List.getElem?_eq_none (by omega)]
theorem adt_lt (b : Nat) (l m : List Nat) (k i : Nat) : ((List.range k).map (adt b l m)).getD i 0 < 18446744073709551616 := by
  rw [List.getD_eq_getElem?_getD]
  by_cases hi : i < k
  · simp [hi]; exact Nat.mod_lt _ (by decide)
  · rw [List.getElem?_eq_none (by simpa using hi)]; decide
/-- A number of four words, doubled, and a bit. -/
theorem dbl4 (n b : Nat) (hb : b ≤ 1) (h : 2 * n + b < 115792089237316195423570985008687907853269984665640564039457584007913129639936) : (List.range 4).map (adt b (w4 n) (w4 n)) = w4 (2 * n + b) := by
  have e := adt_sum b (w4 n) (w4 n) 4
  have h1 := nv_lt _ (fun i => adt_lt b (w4 n) (w4 n) 4 i)
  unfold nvk at e
  rw [range_get _ 4 (w4_len n), nv_w4 n (by omega), show (18446744073709551616 : Nat) ^ 4 = 115792089237316195423570985008687907853269984665640564039457584007913129639936 by decide] at e
  rw [List.length_map, List.length_range, show (18446744073709551616 : Nat) ^ 4 = 115792089237316195423570985008687907853269984665640564039457584007913129639936 by decide] at h1
  rw [← w4_nv ((List.range 4).map (adt b (w4 n) (w4 n))) (by simp) (fun i => adt_lt b _ _ 4 i)]
  congr 1
  generalize nv _ = A at e h1 ⊢
  generalize adb b (w4 n) (w4 n) 4 = c at e
  omega
/-! ### One byte more -/
theorem from_word8 (a b q r i : Nat) (ha : a < 18446744073709551616 ^ q * 2 ^ (8 * r)) (hb : b < 256) (hr : r < 8) :
    wd (a + 18446744073709551616 ^ q * 2 ^ (8 * r) * b) i = if i = q then wd a q + 2 ^ (8 * r) * b else wd a i := by
  have hp : 2 ^ (8 * r) * 256 ≤ 18446744073709551616 := by
    have h := Nat.pow_le_pow_right (n := 2) (by decide) (show 8 * r ≤ 56 by omega)
    omega
  have hp0 : 0 < 2 ^ (8 * r) := Nat.two_pow_pos _
  obtain ⟨p, hpp⟩ : ∃ p, 2 ^ (8 * r) = p := ⟨_, rfl⟩
  rw [hpp] at ha hp hp0 ⊢
  have hpb : p * b + p ≤ p * 256 := by rw [← Nat.mul_succ]; exact Nat.mul_le_mul_left _ hb
  have hR : 0 < 18446744073709551616 := by decide
  obtain ⟨R, hRR⟩ : ∃ R, 18446744073709551616 = R := ⟨_, rfl⟩
  unfold wd
  rw [hRR] at ha hp hR ⊢
  have hq0 : 0 < R ^ q := Nat.pow_pos hR
  split
  case isTrue h =>
    subst h
    rw [Nat.mul_assoc, Nat.add_mul_div_left _ _ hq0]
    have h1 : a / R ^ i < p := Nat.div_lt_of_lt_mul ha
    rw [Nat.mod_eq_of_lt (show a / R ^ i + p * b < R by omega), Nat.mod_eq_of_lt (show a / R ^ i < R by omega)]
  case isFalse h =>
    by_cases hlt : i < q
    · obtain ⟨d, rfl⟩ : ∃ d, q = i + 1 + d := ⟨q - (i + 1), by omega⟩
      rw [show R ^ (i + 1 + d) * p * b = R ^ i * (R * (R ^ d * p * b)) by rw [Nat.pow_add, Nat.pow_add, Nat.pow_one]; simp only [Nat.mul_assoc, Nat.mul_comm, Nat.mul_left_comm]]
      rw [Nat.add_mul_div_left _ _ (Nat.pow_pos hR), Nat.add_mul_mod_self_left]
    · obtain ⟨d, rfl⟩ : ∃ d, i = q + 1 + d := ⟨i - (q + 1), by omega⟩
      have h1 : R ^ q * p * b + R ^ q * p ≤ R ^ q * R := by
        rw [Nat.mul_assoc, ← Nat.mul_add]
        exact Nat.mul_le_mul_left _ (by omega)
      have h2 : R ^ q * R ≤ R ^ (q + 1 + d) := by rw [← Nat.pow_succ]; exact Nat.pow_le_pow_right hR (by omega)
      rw [Nat.div_eq_of_lt (show a + R ^ q * p * b < R ^ (q + 1 + d) by omega), Nat.div_eq_of_lt (show a < R ^ (q + 1 + d) by omega)]
theorem pow256b (q r : Nat) : 256 ^ (8 * q + r) = 18446744073709551616 ^ q * 2 ^ (8 * r) := by
  rw [Nat.pow_add, Nat.pow_mul, Nat.pow_mul]
theorem from_set8 (n k : Nat) (hk : k < 64) :
    (w8 (n % 256 ^ k)).set (k / 8) (wd (n % 256 ^ k) (k / 8) + 2 ^ (8 * (k % 8)) * (n / 256 ^ k % 256)) = w8 (n % 256 ^ (k + 1)) := by
  obtain ⟨q, hq⟩ : ∃ q, k / 8 = q := ⟨_, rfl⟩
  obtain ⟨r, hr⟩ : ∃ r, k % 8 = r := ⟨_, rfl⟩
  rw [hq, hr]
  obtain ⟨b, hb⟩ : ∃ b, n / 256 ^ k % 256 = b := ⟨_, rfl⟩
  obtain ⟨a, ha⟩ : ∃ a, n % 256 ^ k = a := ⟨_, rfl⟩
  have h1 : n % 256 ^ (k + 1) = a + 18446744073709551616 ^ q * 2 ^ (8 * r) * b := by
    rw [Nat.pow_succ, Nat.mod_mul, ha, hb, ← pow256b, ← hq, ← hr, Nat.div_add_mod]
  have h2 : a < 18446744073709551616 ^ q * 2 ^ (8 * r) := by
    rw [← ha, ← pow256b, ← hq, ← hr, Nat.div_add_mod]; exact Nat.mod_lt _ (Nat.pow_pos (by decide))
  have h3 := fun i => from_word8 a b q r i h2 (by rw [← hb]; exact Nat.mod_lt _ (by decide)) (by omega)
  rw [hb, ha, h1, w8_wd, w8_wd]
  simp only [List.range, List.range.loop, List.map, h3]
  have hq8 : q = 0 ∨ q = 1 ∨ q = 2 ∨ q = 3 ∨ q = 4 ∨ q = 5 ∨ q = 6 ∨ q = 7 := by omega
  rcases hq8 with rfl | rfl | rfl | rfl | rfl | rfl | rfl | rfl <;> rfl
theorem from_low8 (n k : Nat) : wd (n % 256 ^ k) (k / 8) < 2 ^ (8 * (k % 8)) := by
  have h := Nat.div_add_mod k 8
  have h1 : n % 256 ^ k < 18446744073709551616 ^ (k / 8) * 2 ^ (8 * (k % 8)) := by
    rw [← pow256b, h]; exact Nat.mod_lt _ (Nat.pow_pos (by decide))
  exact Nat.lt_of_le_of_lt (Nat.mod_le _ _) (Nat.div_lt_of_lt_mul h1)
/-! ### The rest, bit by bit -/
/-- What one more bit makes of the rest of those above. -/
theorem rest_bit (n k L : Nat) : (2 * (n / 2 ^ (k + 1) % L) + n / 2 ^ k % 2) % L = n / 2 ^ k % L := by
  have e : n / 2 ^ k = 2 * (n / 2 ^ (k + 1)) + n / 2 ^ k % 2 := by
    rw [Nat.pow_succ, ← Nat.div_div_eq_div_mul]
    omega
  conv => rhs; rw [e]
  rw [Nat.add_mod, Nat.mul_mod_mod, ← Nat.add_mod]
end Go.Proofs.YtlpchgoaoglhcaaDoor
namespace Go.Proofs.YtlpchgoaoglhcaaDoor
open Go.RowKit
theorem zS (w : World) : (zeroValue 97).run Tryd.prog w = .ok (.agg (nums .u64 (zer 4))) w :=
  (zero_of_info (P := Tryd.prog) (t := 97) (v := .agg (nums .u64 (zer 4))) (n := 4) (by kernel_rfl)).1 w
theorem sS (n : Nat) : (Tryd.prog.info? 97).map (·.size) = some (nums .u64 (w4 n)).size := by rw [size_nums, w4_len]; kernel_rfl
theorem zV (w : World) : (zeroValue 98).run Tryd.prog w = .ok (.agg (nums .u64 (zer 8))) w :=
  (zero_of_info (P := Tryd.prog) (t := 98) (v := .agg (nums .u64 (zer 8))) (n := 8) (by kernel_rfl)).1 w
theorem sV (l : List Nat) (h : l.length = 8) : (Tryd.prog.info? 98).map (·.size) = some (nums .u64 l).size := by rw [size_nums, h]; kernel_rfl
theorem zM (w : World) : (zeroValue 67).run Tryd.prog w = .ok (.agg (byteVals (zerB 32)).toArray) w :=
  (zero_of_info (P := Tryd.prog) (t := 67) (v := .agg (byteVals (zerB 32)).toArray) (n := 32) (by kernel_rfl)).1 w
theorem sM (l : List UInt8) (h : l.length = 32) : (Tryd.prog.info? 67).map (·.size) = some (byteVals l).toArray.size := by rw [size_byteVals, h]; kernel_rfl
set_option maxRecDepth 100000 in
set_option maxHeartbeats 1000000 in
theorem minusS_any (n m r c : Nat) (w : World) (hn : n < 115792089237316195423570985008687907853269984665640564039457584007913129639936) (hm : m < 115792089237316195423570985008687907853269984665640564039457584007913129639936) (hr : r < 115792089237316195423570985008687907853269984665640564039457584007913129639936) (h : n + 115792089237316195423570985008687907853269984665640564039457584007913129639936 * c = r + m) (hc : c ≤ 1) :
    Calls Tryd.prog 87 #[.agg (nums .u64 (w4 n)), .agg (nums .u64 (w4 m))] w fun e w' => e = .returned (.tuple #[.agg (nums .u64 (w4 r)), .int .u64 (c : Int)]) ∧ Below w.heap.size w w' := by
  have hf := sub_fin n m hn hm
  have HF := Lib.hid (show (List.range 4).map (sbs (w4 n) (w4 m)) = w4 r ∧ sbb (w4 n) (w4 m) 4 = c by
    obtain ⟨e1, e2⟩ := sub_end n m r c hn hm h hr hc; rw [hf.1, hf.2, e1, e2]; exact ⟨rfl, rfl⟩)
  have hz := zS
  clear hn hm hf hr h hc
  go_enter Tryd.func87, Tryd.ntmps87
  go_wp2_with fail
  generalize hW1 : World.alloc _ _ = W1
  obtain ⟨N, hN⟩ : ∃ n, w.heap.size = n := ⟨_, rfl⟩
  have HR1 := Lib.hid (show RW W1 N .u64 97 ((List.range 0).map (sbs (w4 n) (w4 m)) ++ (w4 n).drop 0) by subst hW1; rw [← hN]; exact (alloc3_at w _ _ _).1)
  have HR2 := Lib.hid (show RW W1 (N + 1) .u64 97 (w4 m) by subst hW1; rw [← hN]; exact (alloc3_at w _ _ _).2.1)
  have HR3 := Lib.hid (show RW W1 (N + 1 + 1) .u64 97 (zer 4) by subst hW1; rw [← hN]; exact (alloc3_at w _ _ _).2.2)
  have HB1 := Lib.hid (show Below N w W1 by subst hW1; rw [← hN]; exact Below.alloc3 w _ _ _)
  have HN := Lib.hid hN
  rw [hN]
  clear hW1 hN hz
  go_loopw [6, 8] (fun cv iv wr => ∃ (k : Nat), iv = .int .i64 k ∧ cv = .int .u64 ((sbb (w4 n) (w4 m) k : Nat) : Int) ∧ k ≤ 4 ∧ RW wr N .u64 97 ((List.range k).map (sbs (w4 n) (w4 m)) ++ (w4 n).drop k) ∧ RW wr (N + 1) .u64 97 (w4 m) ∧ RW wr (N + 1 + 1) .u64 97 (zer 4) ∧ Below N w wr) (fun _ i _ => 4 - (intOf i).toNat)
  case atStart => exact ⟨0, rfl, rfl, Nat.zero_le _, HR1.out, HR2.out, HR3.out, HB1.out⟩
  case round =>
    obtain ⟨k, rfl, rfl, hk, hr1, hr2, hr3, hbel⟩ := hrel
    have HA1 := Lib.hid hr1
    have HA2 := Lib.hid hr2
    have HA3 := Lib.hid hr3
    have HBE := Lib.hid hbel
    clear hr1 hr2 hr3 hbel HR1 HR2 HR3 HB1
    by_cases hlt : k < 4
    · have hlt' : (k : Int) < 4 := by omega
      have c1 := HA1.out.cell (i := k) (by rw [fillw_len _ _ _ (w4_len n) hk]; exact hlt)
      rw [fillw_get] at c1
      have c2 := HA2.out.cell (i := k) (by rw [w4_len]; exact hlt)
      have hC := sbb_le (w4 n) (w4 m) k
      have HA := Lib.hid (fun w => by
        obtain ⟨h1, h2, h3⟩ := bor_step ((w4 n).getD k 0) ((w4 m).getD k 0) (sbb (w4 n) (w4 m) k) _ _ hC (w4_lt n k) (w4_lt m k) rfl rfl
        exact sub64 ((w4 n).getD k 0) ((w4 m).getD k 0) (sbb (w4 n) (w4 m) k) (sbs (w4 n) (w4 m) k) (sbb (w4 n) (w4 m) (k + 1)) hC h1 h2 (w4_lt m k) (w4_lt n k) h3 w)
      have HS := Lib.hid (fillw (sbs (w4 n) (w4 m)) (w4 n) k (w4_len n) hlt)
      obtain ⟨s, hs⟩ : ∃ s, sbs (w4 n) (w4 m) k = s := ⟨_, rfl⟩
      obtain ⟨c', hcc⟩ : ∃ s, sbb (w4 n) (w4 m) (k + 1) = s := ⟨_, rfl⟩
      obtain ⟨x, hx⟩ : ∃ s, (w4 n).getD k 0 = s := ⟨_, rfl⟩
      obtain ⟨y, hy⟩ : ∃ s, (w4 m).getD k 0 = s := ⟨_, rfl⟩
      rw [hs, hcc, hx, hy] at HA
      rw [hs] at HS
      rw [hx] at c1
      rw [hy] at c2
      generalize sbb (w4 n) (w4 m) k = c0 at HA
      have HCC := Lib.hid hcc
      have ha := HA.out
      have f1 := HA1.out.frozen k
      clear hC hs hcc hx hy
      go_wp2_with fail
      go_region
      go_wp2
      go_roundw
      case rel => exact ⟨k + 1, rfl, by rw [HCC.out], hlt, by rw [← HS.out]; exact HA1.out.set s, HA2.out.other (setCell_other _ (by omega)), HA3.out.other (setCell_other _ (by omega)), (HBE.out.setCell (p := ⟨N, k, none⟩) (Nat.le_refl _) _).drew⟩
      case measure => simp [intOf]; omega
    · have hlt' : ¬ (k : Int) < 4 := by omega
      have h1 := HA1.out
      rw [show k = 4 by omega, HF.out.1, List.drop_eq_nil_of_le (by rw [w4_len]; exact Nat.le_refl _), List.append_nil] at h1
      have H1 := Lib.hid h1
      have HC := Lib.hid (show sbb (w4 n) (w4 m) k = c by rw [show k = 4 by omega]; exact HF.out.2)
      have HSZ := Lib.hid (sS r)
      have HO := Lib.hid (show (nums .u64 (zer 4)).size = (nums .u64 (w4 r)).size by rw [size_nums, size_nums, zer_len, w4_len])
      clear h1 HA1 HF
      go_wp2_with (first | (refine wpList_load_row rfl 97 _ rfl N rfl 97 _ (0, 0) _ H1.out Tryd.underlying97 rfl HSZ.out ?_) | (refine wpList_store_row rfl 97 _ _ rfl (N + 1 + 1) (nums .u64 (w4 r)) rfl rfl 97 _ HA3.out HSZ.out HO.out (nums_one _ _) ?_))
      refine bodyPost_ret (results_cell_slot (p := 4) (q := 5) (by rfl) _ _ (N + 1 + 1) 97 (nums .u64 (w4 r)) (0, 0) _ (.int .u64 (c : Int)) (by rfl) (setRow_heap _ _ _ _ _ _ HA3.out) Tryd.underlying97 rfl HSZ.out (congrArg (fun z : Nat => Value.int .u64 (z : Int)) HC.out)) rfl ⟨rfl, ?_⟩
      rw [HN.out]
      exact Below.setRow HBE.out (by omega) _
set_option maxRecDepth 100000 in
set_option maxHeartbeats 1000000 in
theorem orderS_any (w : World) : Calls Tryd.prog 88 #[] w fun e w' => e = .returned (.agg (nums .u64 (w4 7237005577332262213973186563042994240857116359379907606001950938285454250989))) ∧ Below w.heap.size w w' := by
  have hz := zS
  have HS := Lib.hid (sS 7237005577332262213973186563042994240857116359379907606001950938285454250989)
  go_enter Tryd.func88, Tryd.ntmps88
  go_wp2_with (first
    | (refine wpList_build' rfl 97 _ rfl (nums .u64 (w4 7237005577332262213973186563042994240857116359379907606001950938285454250989)) (by kernel_rfl) ?_)
    | (refine wpList_store_row rfl 97 _ _ rfl w.heap.size (nums .u64 (w4 7237005577332262213973186563042994240857116359379907606001950938285454250989)) rfl rfl 97 _ (Go.heap_alloc_new _ _) HS.out ?hold (nums_one _ _) ?_))
  case hold => rw [size_nums, size_nums, zer_len]; rfl
  exact bodyPost_ret (results_cell_row (by rfl) _ _ w.heap.size 97 (nums .u64 (w4 7237005577332262213973186563042994240857116359379907606001950938285454250989)) (0, 0) _ (by rfl) (setRow_heap _ _ _ _ _ _ (Go.heap_alloc_new _ _)) Tryd.underlying97 rfl HS.out) rfl ⟨rfl, below_set _ _ _ _⟩
end Go.Proofs.YtlpchgoaoglhcaaDoor
namespace Go.Proofs.YtlpchgoaoglhcaaDoor
open Go.RowKit
theorem le_set : ∀ (l : List UInt8) (k : Nat) (x : UInt8), k < l.length → le (l.set k x) + 256 ^ k * (l.getD k 0).toNat = le l + 256 ^ k * x.toNat
  | [], k, x, h => by cases h
  | b :: l, 0, x, _ => by simp [le]; omega
  | b :: l, k + 1, x, h => by
    have ih := le_set l k x (by simpa using h)
    have e : le ((b :: l).set (k + 1) x) = b.toNat + 256 * le (l.set k x) := rfl
    have e2 : le (b :: l) = b.toNat + 256 * le l := rfl
    rw [e, e2, show (b :: l).getD (k + 1) 0 = l.getD k 0 by simp [List.getD_eq_getElem?_getD], Nat.pow_succ, Nat.mul_comm (256 ^ k) 256, Nat.mul_assoc, Nat.mul_assoc]
    omega
theorem PB_le {l : List UInt8} (h : l.length = 32) : PB (le l) = RB l := by unfold PB RB; rw [b32_le l h]
theorem PB_31 (n : Nat) (h : n < 115792089237316195423570985008687907853269984665640564039457584007913129639936) : (PB n)[31]? = some (.int .u8 ((n / 452312848583266388373324160190187140051835877600158453279131187530910662656 : Nat) : Int)) := by
  unfold PB
  rw [byteVals_get _ 31 (by rw [b32_len]; decide), b32_get n 31 (by decide), UInt8.toNat_ofNat', show 256 ^ 31 = 452312848583266388373324160190187140051835877600158453279131187530910662656 by decide]
  congr 3
  omega
theorem PB_set31 (n m v : Nat) (hn : n < 115792089237316195423570985008687907853269984665640564039457584007913129639936) (hv : v < 256)
    (hm : m + 452312848583266388373324160190187140051835877600158453279131187530910662656 * (n / 452312848583266388373324160190187140051835877600158453279131187530910662656) = n + 452312848583266388373324160190187140051835877600158453279131187530910662656 * v) :
    (PB n).setIfInBounds 31 (.int .u8 ((v : Nat) : Int)) = PB m := by
  have h1 : (PB n).setIfInBounds 31 (.int .u8 ((v : Nat) : Int)) = (byteVals ((b32 n).set 31 (UInt8.ofNat v))).toArray := by
    unfold PB byteVals
    rw [List.setIfInBounds_toArray, List.map_set, UInt8.toNat_ofNat', Nat.mod_eq_of_lt (show v < 2 ^ 8 by omega)]
  have h2 := le_set (b32 n) 31 (UInt8.ofNat v) (by rw [b32_len]; decide)
  rw [le_b32 n hn, b32_get n 31 (by decide), UInt8.toNat_ofNat', UInt8.toNat_ofNat', show 256 ^ 31 = 452312848583266388373324160190187140051835877600158453279131187530910662656 by decide, Nat.mod_eq_of_lt (show v < 2 ^ 8 by omega)] at h2
  have h3 : le ((b32 n).set 31 (UInt8.ofNat v)) = m := by omega
  rw [h1]
  unfold PB
  rw [← h3, b32_le _ (by rw [List.length_set]; exact b32_len _)]
theorem or128 (n : Nat) (h : n < 256) : bits .or .u8 (n : Int) 128 = ((n % 128 + 128 : Nat) : Int) := by
  have : ∀ a : Fin 256, bits .or .u8 (a.val : Int) 128 = ((a.val % 128 + 128 : Nat) : Int) := by decide +kernel
  exact this ⟨n, h⟩
theorem and128 (n : Nat) (h : n < 256) : bits .and .u8 (n : Int) 128 = ((n / 128 * 128 : Nat) : Int) := by
  have : ∀ a : Fin 256, bits .and .u8 (a.val : Int) 128 = ((a.val / 128 * 128 : Nat) : Int) := by decide +kernel
  exact this ⟨n, h⟩
theorem andNot128 (n : Nat) (h : n < 256) : bits .andNot .u8 (n : Int) 128 = ((n % 128 : Nat) : Int) := by
  have : ∀ a : Fin 256, bits .andNot .u8 (a.val : Int) 128 = ((a.val % 128 : Nat) : Int) := by decide +kernel
  exact this ⟨n, h⟩
theorem run_and8 {P : Program} (o : Oper) (ax : Act) (t : TypeId) (x y : Operand) (ho : o.op = .binOp .and t x y t) (a b : Int) (hx : ax.eval x = .int .u8 a) (hy : ax.eval y = .int .u8 b) (c : Int) (hc : bits .and .u8 a b = c) (w : World) : (execOp ax.eval o).run P w = .ok (.value (.int .u8 c)) w := by
  unfold execOp
  simp only [ho, hx, hy]
  simp [go_sem, hc]
theorem run_or8 {P : Program} (o : Oper) (ax : Act) (t : TypeId) (x y : Operand) (ho : o.op = .binOp .or t x y t) (a b : Int) (hx : ax.eval x = .int .u8 a) (hy : ax.eval y = .int .u8 b) (c : Int) (hc : bits .or .u8 a b = c) (w : World) : (execOp ax.eval o).run P w = .ok (.value (.int .u8 c)) w := by
  unfold execOp
  simp only [ho, hx, hy]
  simp [go_sem, hc]
theorem run_andNot8 {P : Program} (o : Oper) (ax : Act) (t : TypeId) (x y : Operand) (ho : o.op = .binOp .andNot t x y t) (a b : Int) (hx : ax.eval x = .int .u8 a) (hy : ax.eval y = .int .u8 b) (c : Int) (hc : bits .andNot .u8 a b = c) (w : World) : (execOp ax.eval o).run P w = .ok (.value (.int .u8 c)) w := by
  unfold execOp
  simp only [ho, hx, hy]
  simp [go_sem, hc]
theorem run_neq8 (o : Oper) (ax : Act) (x y : Operand) (ho : o.op = .binOp .neq 5 x y 5) (a b : Int) (hx : ax.eval x = .int .u8 a) (hy : ax.eval y = .int .u8 b) (c : Bool) (hc : (!(a == b)) = c) (w : World) : (execOp ax.eval o).run Tryd.prog w = .ok (.value (.bool c)) w := by
  have hu := Tryd.underlying5
  unfold execOp
  simp only [ho, hx, hy]
  simp [go_sem, ← hc, bne]
section
variable {w0 : World}
theorem quiet_load_byte {o : Oper} {a : Act} {K : Act → Prop} (x : Operand) (ho : o.op = .load 5 x) (g i : Nat) (hx : a.eval x = .pointer (some ⟨g, i, none⟩)) (t : TypeId) (X : Array Value) (hg : CT w0 g t X) (v : Value) (hv : X[i]? = some v) (h : K (a.put o.dst v)) :
    o.quiet Tryd.prog a (fun w' => ∃ p : Ext w0, w' = p.x) K := by
  have hu := Tryd.underlying5
  refine ⟨_, fun w ⟨p, hp⟩ => ?_, h⟩
  subst hp
  have hc : p.x.cell? ⟨g, i, none⟩ = some v := by
    have hgp : p.x.heap[g]? = some (.cells X t (0, 0)) := hg.ext p.h
    unfold World.cell?
    simp [hgp, hv]
  unfold Oper.quietAt execOp
  simp only [ho, hx]
  simp [go_sem, hc, Oper.quietUpon]
variable {ops : Array Oper} {Q : Exit → Act → World → Prop} {rest : List Oper}
theorem wpList_store_byte {o : Oper} {a : Act} {w : World} (hgd : o.guard = none) (x y : Operand) (ho : o.op = .store 5 x y) (g i : Nat) (hx : a.eval x = .pointer (some ⟨g, i, none⟩)) (v : Int) (hy : a.eval y = .int .u8 v)
    (t : TypeId) (X X' : Array Value) (hg : CT w g t X) (hi : i < X.size) (hX : X.setIfInBounds i (.int .u8 v) = X') (hds : o.dst = none)
    (h : ∀ w', CT w' g t X' → (∀ b, b ≠ g → w'.heap[b]? = w.heap[b]?) → (∀ B u, Below B u w → B ≤ g → Below B u w') → wpList Tryd.prog ops Q rest a w') : wpList Tryd.prog ops Q (o :: rest) a w := by
  have hu := Tryd.underlying5
  have hgh : w.heap[g]? = some (.cells X t (0, 0)) := hg
  have hc : w.cell? ⟨g, i, none⟩ = some X[i] := by simp [World.cell?, hgh, hi]
  have hf : w.frozen? ⟨g, i, none⟩ = false := by simp [World.frozen?, hgh]
  refine wpList_plain hgd fun K hK => ?_
  unfold Oper.wp execOp
  simp only [ho, hx, hy]
  simp [go_sem, hc, hf, hds, Value.cells]
  exact hK _ _ (h _ ((setCell_cells _ hgh).trans (by rw [hX])) (fun b hb => setCell_other _ hb) (fun B u hB hle => hB.setCell hle _))
end
end Go.Proofs.YtlpchgoaoglhcaaDoor
