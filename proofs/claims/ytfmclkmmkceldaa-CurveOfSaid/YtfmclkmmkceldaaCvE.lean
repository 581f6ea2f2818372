/-
  The document's points of four numbers: dee, zero, flat, sum, packed.
  Conditions: none.
-/
import Derived.Test.YtfmclkmmkceldaaCvZ
import Derived.Test.YtfmclkmmkceldaaCvD
namespace Go.Proofs.Ytfmclkmmkceldaa
open Go.RowKit

set_option linter.unusedSimpArgs false
set_option linter.unusedVariables false
set_option maxRecDepth 100000 in
set_option maxHeartbeats 1000000 in
theorem dee_any  (w : World) :
    Calls Try.prog 87 #[] w fun e w' => e = .returned (.agg (WB cD)) ∧ Below w.heap.size w w' := by
  have hz0 := zWo
  go_enter Try.func87, Try.ntmps87
  go_upto_region 1 with fail
  generalize hW1 : World.alloc _ _ = W1
  obtain ⟨N, hN⟩ : ∃ n, w.heap.size = n := ⟨_, rfl⟩
  have HX0 := Lib.hid (show CT W1 N 86 (WB 0) by subst hW1; rw [← hN]; exact (allocs1_at w _))
  have HB := Lib.hid (show Below N w W1 by subst hW1; rw [← hN]; exact allocs1_below w _)
  have HN := Lib.hid hN
  rw [hN]
  clear hW1 hN
  refine wp_region_seq 1 ?_
  simp only [List.take_succ_cons, List.take_zero, List.drop_succ_cons, List.drop_zero]
  refine upW_late (by rfl) (.agg (WB cD)) (fun w => run_built _ _ _ _ rfl _ (by kernel_rfl) w) ?_
  simp only [Act.put, List.setIfInBounds_toArray, List.set]
  refine upW_nil (fun wr1 hbr1 => ?_)
  replace HX0 := Lib.hid (HX0.out.ext hbr1)
  replace HB := Lib.hid (HB.out.trans (hbr1.mono (show N ≤ _ by have := HB.out.size; have := HN.out; omega)))
  clear hbr1
  refine wpList_store_ct rfl 86 _ _ rfl N (WB cD) rfl rfl 86 (WB 0) 4 HX0.out (by kernel_rfl) (WB_rw 0) (WB_rw cD) rfl (fun wr2 hSwr2 hOwr2 hWwr2 => ?_)
  replace HX0 := Lib.hid hSwr2
  replace HB := Lib.hid (hWwr2 _ _ HB.out (by omega))
  clear hSwr2 hOwr2 hWwr2
  go_wp2
  refine bodyPost_ret (results_ct (by rfl) _ _ N 86 (WB cD) 4 _ (by rfl) HX0.out (WB_rw cD) Try.underlying86 rfl (by kernel_rfl)) rfl ⟨by first | rfl | (rfl), by rw [HN.out]; exact HB.out⟩
set_option maxRecDepth 100000 in
set_option maxHeartbeats 1000000 in
theorem zeroP_any  (w : World) :
    Calls Try.prog 120 #[] w fun e w' => e = .returned (.agg (WR 0 1 1 0)) ∧ Below w.heap.size w w' := by
  have hz0 := zPo
  go_enter Try.func120, Try.ntmps120
  go_upto_region 1 with fail
  generalize hW1 : World.alloc _ _ = W1
  obtain ⟨N, hN⟩ : ∃ n, w.heap.size = n := ⟨_, rfl⟩
  have HX0 := Lib.hid (show CT W1 N 88 (WR 0 0 0 0) by subst hW1; rw [← hN]; exact (allocs1_at w _))
  have HB := Lib.hid (show Below N w W1 by subst hW1; rw [← hN]; exact allocs1_below w _)
  have HN := Lib.hid hN
  rw [hN]
  clear hW1 hN
  refine wp_region_seq 3 ?_
  simp only [List.take_succ_cons, List.take_zero, List.drop_succ_cons, List.drop_zero]
  refine upW_late (by rfl) (.agg (WB 1)) (fun w => run_built _ _ _ _ rfl _ (by kernel_rfl) w) ?_
  simp only [Act.put, List.setIfInBounds_toArray, List.set]
  refine upW_late (by rfl) (.agg (WB 1)) (fun w => run_built _ _ _ _ rfl _ (by kernel_rfl) w) ?_
  simp only [Act.put, List.setIfInBounds_toArray, List.set]
  refine upW_late (by rfl) (.agg (WR 0 1 1 0)) (fun w => run_built _ _ _ _ rfl _ (by kernel_rfl) w) ?_
  simp only [Act.put, List.setIfInBounds_toArray, List.set]
  refine upW_nil (fun wr1 hbr1 => ?_)
  replace HX0 := Lib.hid (HX0.out.ext hbr1)
  replace HB := Lib.hid (HB.out.trans (hbr1.mono (show N ≤ _ by have := HB.out.size; have := HN.out; omega)))
  clear hbr1
  refine wpList_store_ct rfl 88 _ _ rfl N (WR 0 1 1 0) rfl rfl 88 (WR 0 0 0 0) 16 HX0.out (by kernel_rfl) (WR_rw 0 0 0 0) (WR_rw 0 1 1 0) rfl (fun wr2 hSwr2 hOwr2 hWwr2 => ?_)
  replace HX0 := Lib.hid hSwr2
  replace HB := Lib.hid (hWwr2 _ _ HB.out (by omega))
  clear hSwr2 hOwr2 hWwr2
  go_wp2
  refine bodyPost_ret (results_ct (by rfl) _ _ N 88 (WR 0 1 1 0) 16 _ (by rfl) HX0.out (WR_rw 0 1 1 0) Try.underlying88 rfl (by kernel_rfl)) rfl ⟨by first | rfl | (rfl), by rw [HN.out]; exact HB.out⟩
set_option maxRecDepth 100000 in
set_option maxHeartbeats 1000000 in
theorem flatP_any (a b : Fp) (w : World) :
    Calls Try.prog 80 #[.agg (WB a), .agg (WB b)] w fun e w' => e = .returned (.agg (WR a b 1 (a * b))) ∧ Below w.heap.size w w' := by
  obtain ⟨c1, hc1⟩ : ∃ zq : Fp, zq = a * b := ⟨_, rfl⟩
  have HE1 := Lib.hid hc1
  clear hc1
  have HQ2 := Lib.hid (fun w => WB.mul a b w)
  rw [← HE1.out] at HQ2
  have hz0 := zPo
  go_enter Try.func80, Try.ntmps80
  go_upto_region 1 with fail
  generalize hW1 : World.alloc _ _ = W1
  obtain ⟨N, hN⟩ : ∃ n, w.heap.size = n := ⟨_, rfl⟩
  have HX0 := Lib.hid (show CT W1 N 86 (WB a) by subst hW1; rw [← hN]; exact (allocs3_at w _ _ _).1)
  have HX1 := Lib.hid (show CT W1 (N + 1) 86 (WB b) by subst hW1; rw [← hN]; exact (allocs3_at w _ _ _).2.1)
  have HX2 := Lib.hid (show CT W1 (N + 1 + 1) 88 (WR 0 0 0 0) by subst hW1; rw [← hN]; exact (allocs3_at w _ _ _).2.2)
  have HB := Lib.hid (show Below N w W1 by subst hW1; rw [← hN]; exact allocs3_below w _ _ _)
  have HN := Lib.hid hN
  rw [hN]
  clear hW1 hN
  refine wp_region_upT 7 _ (by kernel_rfl) (by kernel_rfl) rfl (by kernel_rfl) (fun _ _ dst _ _ h => by cases dst <;> exact h) ?_
  simp only [List.take_succ_cons, List.take_zero, List.drop_succ_cons, List.drop_zero]
  refine upW_val (by rfl) (by rfl) (by rfl) (fun K hK => quiet_load_ct _ _ rfl N rfl 86 (WB a) 4 (WB_rw a) _ HX0.out Try.underlying86 rfl (by kernel_rfl) (hK _ ?_))
  simp only [Act.put, List.setIfInBounds_toArray, List.set]
  refine upW_val (by rfl) (by rfl) (by rfl) (fun K hK => quiet_load_ct _ _ rfl (N + 1) rfl 86 (WB b) 4 (WB_rw b) _ HX1.out Try.underlying86 rfl (by kernel_rfl) (hK _ ?_))
  simp only [Act.put, List.setIfInBounds_toArray, List.set]
  refine upW_late (by rfl) (.agg (WB 1)) (fun w => run_built _ _ _ _ rfl _ (by kernel_rfl) w) ?_
  simp only [Act.put, List.setIfInBounds_toArray, List.set]
  refine upW_val (by rfl) (by rfl) (by rfl) (fun K hK => quiet_load_ct _ _ rfl N rfl 86 (WB a) 4 (WB_rw a) _ HX0.out Try.underlying86 rfl (by kernel_rfl) (hK _ ?_))
  simp only [Act.put, List.setIfInBounds_toArray, List.set]
  refine upW_val (by rfl) (by rfl) (by rfl) (fun K hK => quiet_load_ct _ _ rfl (N + 1) rfl 86 (WB b) 4 (WB_rw b) _ HX1.out Try.underlying86 rfl (by kernel_rfl) (hK _ ?_))
  simp only [Act.put, List.setIfInBounds_toArray, List.set]
  refine upW_call (by rfl) (by rfl) (.agg (WB c1)) _ rfl (by simp) (fun p => ?_) ?_
  · go_big_quiet_op
    exact ⟨_, fun q => Calls.ext_of (HQ2.out q.x), rfl⟩
  simp only [Act.put, List.setIfInBounds_toArray, List.set]
  refine upW_late (by rfl) (.agg (WR a b 1 c1)) (fun w => run_made_P _ _ _ _ _ _ rfl a b 1 c1 rfl rfl rfl rfl w) ?_
  simp only [Act.put, List.setIfInBounds_toArray, List.set]
  refine upW_nil (fun wr1 hbr1 => ?_)
  replace HX0 := Lib.hid (HX0.out.ext hbr1)
  replace HX1 := Lib.hid (HX1.out.ext hbr1)
  replace HX2 := Lib.hid (HX2.out.ext hbr1)
  replace HB := Lib.hid (HB.out.trans (hbr1.mono (show N ≤ _ by have := HB.out.size; have := HN.out; omega)))
  clear hbr1
  refine wpList_store_ct rfl 88 _ _ rfl (N + 1 + 1) (WR a b 1 c1) rfl rfl 88 (WR 0 0 0 0) 16 HX2.out (by kernel_rfl) (WR_rw 0 0 0 0) (WR_rw a b 1 c1) rfl (fun wr2 hSwr2 hOwr2 hWwr2 => ?_)
  replace HX2 := Lib.hid hSwr2
  replace HB := Lib.hid (hWwr2 _ _ HB.out (by omega))
  replace HX0 := Lib.hid (HX0.out.other (hOwr2 _ (by omega)))
  replace HX1 := Lib.hid (HX1.out.other (hOwr2 _ (by omega)))
  clear hSwr2 hOwr2 hWwr2
  go_wp2
  refine bodyPost_ret (results_ct (by rfl) _ _ (N + 1 + 1) 88 (WR a b 1 c1) 16 _ (by rfl) HX2.out (WR_rw a b 1 c1) Try.underlying88 rfl (by kernel_rfl)) rfl ⟨by first | rfl | (simp only [HE1.out]), by rw [HN.out]; exact HB.out⟩
set_option maxRecDepth 100000 in
set_option maxHeartbeats 1000000 in
theorem sumP_any (a b c d a' b' c' d' : Fp) (w : World) :
    Calls Try.prog 79 #[.agg (WR a b c d), .agg (WR a' b' c' d')] w fun e w' => e = .returned (.agg (WR ((((b + a) * (b' + a')) - ((b - a) * (b' - a'))) * ((c * c' + c * c') - (((d * d') + (d * d')) * cD))) (((c * c' + c * c') + (((d * d') + (d * d')) * cD)) * (((b + a) * (b' + a')) + ((b - a) * (b' - a')))) (((c * c' + c * c') - (((d * d') + (d * d')) * cD)) * ((c * c' + c * c') + (((d * d') + (d * d')) * cD))) ((((b + a) * (b' + a')) - ((b - a) * (b' - a'))) * (((b + a) * (b' + a')) + ((b - a) * (b' - a')))))) ∧ Below w.heap.size w w' := by
  obtain ⟨c1, hc1⟩ : ∃ zq : Fp, zq = b - a := ⟨_, rfl⟩
  have HE1 := Lib.hid hc1
  clear hc1
  have HQ2 := Lib.hid (fun w => WB.sub b a w)
  rw [← HE1.out] at HQ2
  obtain ⟨c3, hc3⟩ : ∃ zq : Fp, zq = b' - a' := ⟨_, rfl⟩
  have HE3 := Lib.hid hc3
  clear hc3
  have HQ4 := Lib.hid (fun w => WB.sub b' a' w)
  rw [← HE3.out] at HQ4
  obtain ⟨c5, hc5⟩ : ∃ zq : Fp, zq = c1 * c3 := ⟨_, rfl⟩
  have HE5 := Lib.hid hc5
  clear hc5
  have HQ6 := Lib.hid (fun w => WB.mul c1 c3 w)
  rw [← HE5.out] at HQ6
  obtain ⟨c7, hc7⟩ : ∃ zq : Fp, zq = b + a := ⟨_, rfl⟩
  have HE7 := Lib.hid hc7
  clear hc7
  have HQ8 := Lib.hid (fun w => WB.add b a w)
  rw [← HE7.out] at HQ8
  obtain ⟨c9, hc9⟩ : ∃ zq : Fp, zq = b' + a' := ⟨_, rfl⟩
  have HE9 := Lib.hid hc9
  clear hc9
  have HQ10 := Lib.hid (fun w => WB.add b' a' w)
  rw [← HE9.out] at HQ10
  obtain ⟨c11, hc11⟩ : ∃ zq : Fp, zq = c7 * c9 := ⟨_, rfl⟩
  have HE11 := Lib.hid hc11
  clear hc11
  have HQ12 := Lib.hid (fun w => WB.mul c7 c9 w)
  rw [← HE11.out] at HQ12
  obtain ⟨c13, hc13⟩ : ∃ zq : Fp, zq = d * d' := ⟨_, rfl⟩
  have HE13 := Lib.hid hc13
  clear hc13
  have HQ14 := Lib.hid (fun w => WB.mul d d' w)
  rw [← HE13.out] at HQ14
  obtain ⟨c15, hc15⟩ : ∃ zq : Fp, zq = c13 + c13 := ⟨_, rfl⟩
  have HE15 := Lib.hid hc15
  clear hc15
  have HQ16 := Lib.hid (fun w => WB.add c13 c13 w)
  rw [← HE15.out] at HQ16
  obtain ⟨c17, hc17⟩ : ∃ zq : Fp, zq = c15 * cD := ⟨_, rfl⟩
  have HE17 := Lib.hid hc17
  clear hc17
  have HQ18 := Lib.hid (fun w => WB.mul c15 cD w)
  rw [← HE17.out] at HQ18
  obtain ⟨c19, hc19⟩ : ∃ zq : Fp, zq = c * c' := ⟨_, rfl⟩
  have HE19 := Lib.hid hc19
  clear hc19
  have HQ20 := Lib.hid (fun w => WB.mul c c' w)
  rw [← HE19.out] at HQ20
  obtain ⟨c21, hc21⟩ : ∃ zq : Fp, zq = c19 + c19 := ⟨_, rfl⟩
  have HE21 := Lib.hid hc21
  clear hc21
  have HQ22 := Lib.hid (fun w => WB.add c19 c19 w)
  rw [← HE21.out] at HQ22
  obtain ⟨c23, hc23⟩ : ∃ zq : Fp, zq = c11 - c5 := ⟨_, rfl⟩
  have HE23 := Lib.hid hc23
  clear hc23
  have HQ24 := Lib.hid (fun w => WB.sub c11 c5 w)
  rw [← HE23.out] at HQ24
  obtain ⟨c25, hc25⟩ : ∃ zq : Fp, zq = c21 - c17 := ⟨_, rfl⟩
  have HE25 := Lib.hid hc25
  clear hc25
  have HQ26 := Lib.hid (fun w => WB.sub c21 c17 w)
  rw [← HE25.out] at HQ26
  obtain ⟨c27, hc27⟩ : ∃ zq : Fp, zq = c21 + c17 := ⟨_, rfl⟩
  have HE27 := Lib.hid hc27
  clear hc27
  have HQ28 := Lib.hid (fun w => WB.add c21 c17 w)
  rw [← HE27.out] at HQ28
  obtain ⟨c29, hc29⟩ : ∃ zq : Fp, zq = c11 + c5 := ⟨_, rfl⟩
  have HE29 := Lib.hid hc29
  clear hc29
  have HQ30 := Lib.hid (fun w => WB.add c11 c5 w)
  rw [← HE29.out] at HQ30
  obtain ⟨c31, hc31⟩ : ∃ zq : Fp, zq = c23 * c25 := ⟨_, rfl⟩
  have HE31 := Lib.hid hc31
  clear hc31
  have HQ32 := Lib.hid (fun w => WB.mul c23 c25 w)
  rw [← HE31.out] at HQ32
  obtain ⟨c33, hc33⟩ : ∃ zq : Fp, zq = c27 * c29 := ⟨_, rfl⟩
  have HE33 := Lib.hid hc33
  clear hc33
  have HQ34 := Lib.hid (fun w => WB.mul c27 c29 w)
  rw [← HE33.out] at HQ34
  obtain ⟨c35, hc35⟩ : ∃ zq : Fp, zq = c25 * c27 := ⟨_, rfl⟩
  have HE35 := Lib.hid hc35
  clear hc35
  have HQ36 := Lib.hid (fun w => WB.mul c25 c27 w)
  rw [← HE35.out] at HQ36
  obtain ⟨c37, hc37⟩ : ∃ zq : Fp, zq = c23 * c29 := ⟨_, rfl⟩
  have HE37 := Lib.hid hc37
  clear hc37
  have HQ38 := Lib.hid (fun w => WB.mul c23 c29 w)
  rw [← HE37.out] at HQ38
  have hz0 := zPo
  have hz1 := zWo
  go_enter Try.func79, Try.ntmps79
  go_upto_region 1 with fail
  generalize hW1 : World.alloc _ _ = W1
  obtain ⟨N, hN⟩ : ∃ n, w.heap.size = n := ⟨_, rfl⟩
  have HX0 := Lib.hid (show CT W1 N 88 (WR a b c d) by subst hW1; rw [← hN]; exact (allocs3_at w _ _ _).1)
  have HX1 := Lib.hid (show CT W1 (N + 1) 88 (WR a' b' c' d') by subst hW1; rw [← hN]; exact (allocs3_at w _ _ _).2.1)
  have HX2 := Lib.hid (show CT W1 (N + 1 + 1) 88 (WR 0 0 0 0) by subst hW1; rw [← hN]; exact (allocs3_at w _ _ _).2.2)
  have HB := Lib.hid (show Below N w W1 by subst hW1; rw [← hN]; exact allocs3_below w _ _ _)
  have HN := Lib.hid hN
  rw [hN]
  clear hW1 hN
  refine wp_region_whole [0, 1, 2, 3, 4, 5, 6, 7, 8, 9, 10] [⟨11, _, 86, (WB 0), 5, 12, _, 86, 24, (WB c5)⟩] [12, 11] (by kernel_rfl) (by kernel_rfl) (List.forall_mem_cons.2 ⟨⟨⟨rfl, rfl, rfl, fun a w => alloc_run _ _ zWo a _ rfl w⟩, rfl, rfl, rfl, rfl, (WB_rw c5).info (by kernel_rfl), (WB_rw 0).same (WB_rw c5), (WB_rw c5).one⟩, (List.forall_mem_nil _)⟩) rfl ?_
  simp only [List.foldl, List.eraseIdx_cons_succ, List.eraseIdx_cons_zero]
  refine upW_late (by rfl) (.pointer (some ⟨N, 4, none⟩)) (fun _ => by kernel_rfl) ?_
  simp only [Act.put, List.setIfInBounds_toArray, List.set]
  refine upW_val (by rfl) (by rfl) (by rfl) (fun K hK => quiet_load_part _ _ rfl N 4 rfl 88 (WR a b c d) (WB b) 4 (WB_rw b) _ HX0.out (WR_1 a b c d) Try.underlying86 rfl (by kernel_rfl) (hK _ ?_))
  simp only [Act.put, List.setIfInBounds_toArray, List.set]
  refine upW_late (by rfl) (.pointer (some ⟨N, 0, none⟩)) (fun _ => by kernel_rfl) ?_
  simp only [Act.put, List.setIfInBounds_toArray, List.set]
  refine upW_val (by rfl) (by rfl) (by rfl) (fun K hK => quiet_load_part _ _ rfl N 0 rfl 88 (WR a b c d) (WB a) 4 (WB_rw a) _ HX0.out (WR_0 a b c d) Try.underlying86 rfl (by kernel_rfl) (hK _ ?_))
  simp only [Act.put, List.setIfInBounds_toArray, List.set]
  refine upW_call (by rfl) (by rfl) (.agg (WB c1)) _ rfl (by simp) (fun p => ?_) ?_
  · go_big_quiet_op
    exact ⟨_, fun q => Calls.ext_of (HQ2.out q.x), rfl⟩
  simp only [Act.put, List.setIfInBounds_toArray, List.set]
  refine upW_late (by rfl) (.pointer (some ⟨(N + 1), 4, none⟩)) (fun _ => by kernel_rfl) ?_
  simp only [Act.put, List.setIfInBounds_toArray, List.set]
  refine upW_val (by rfl) (by rfl) (by rfl) (fun K hK => quiet_load_part _ _ rfl (N + 1) 4 rfl 88 (WR a' b' c' d') (WB b') 4 (WB_rw b') _ HX1.out (WR_1 a' b' c' d') Try.underlying86 rfl (by kernel_rfl) (hK _ ?_))
  simp only [Act.put, List.setIfInBounds_toArray, List.set]
  refine upW_late (by rfl) (.pointer (some ⟨(N + 1), 0, none⟩)) (fun _ => by kernel_rfl) ?_
  simp only [Act.put, List.setIfInBounds_toArray, List.set]
  refine upW_val (by rfl) (by rfl) (by rfl) (fun K hK => quiet_load_part _ _ rfl (N + 1) 0 rfl 88 (WR a' b' c' d') (WB a') 4 (WB_rw a') _ HX1.out (WR_0 a' b' c' d') Try.underlying86 rfl (by kernel_rfl) (hK _ ?_))
  simp only [Act.put, List.setIfInBounds_toArray, List.set]
  refine upW_call (by rfl) (by rfl) (.agg (WB c3)) _ rfl (by simp) (fun p => ?_) ?_
  · go_big_quiet_op
    exact ⟨_, fun q => Calls.ext_of (HQ4.out q.x), rfl⟩
  simp only [Act.put, List.setIfInBounds_toArray, List.set]
  refine upW_call (by rfl) (by rfl) (.agg (WB c5)) _ rfl (by simp) (fun p => ?_) ?_
  · go_big_quiet_op
    exact ⟨_, fun q => Calls.ext_of (HQ6.out q.x), rfl⟩
  simp only [Act.put, List.setIfInBounds_toArray, List.set]
  refine upW_nil ⟨(List.forall_mem_cons.2 ⟨rfl, (List.forall_mem_nil _)⟩), fun M wr1 hM hne hbr1 => ?_⟩
  have hm0 := hM _ (List.mem_cons_self ..)
  clear hM hne
  simp only [List.foldr, pS, Act.put, List.setIfInBounds_toArray, List.set]
  obtain ⟨B1x0, hB1x0⟩ : ∃ m, M 11 = m := ⟨_, rfl⟩
  have HB1x0 := Lib.hid (show CT wr1 B1x0 86 (WB c5) by rw [← hB1x0]; exact hm0.2)
  have hlB1x0X0 : N < B1x0 := by rw [← hB1x0]; exact Nat.lt_of_lt_of_le HX0.out.lt hm0.1
  have hlB1x0X1 : (N + 1) < B1x0 := by rw [← hB1x0]; exact Nat.lt_of_lt_of_le HX1.out.lt hm0.1
  have hlB1x0X2 : (N + 1 + 1) < B1x0 := by rw [← hB1x0]; exact Nat.lt_of_lt_of_le HX2.out.lt hm0.1
  have hNB1x0 : N ≤ B1x0 := by rw [← hB1x0]; exact Nat.le_trans (by have := HB.out.size; have := HN.out; omega) hm0.1
  rw [hB1x0]
  clear hm0 hB1x0
  replace HX0 := Lib.hid (HX0.out.ext hbr1)
  replace HX1 := Lib.hid (HX1.out.ext hbr1)
  replace HX2 := Lib.hid (HX2.out.ext hbr1)
  replace HB := Lib.hid (HB.out.trans (hbr1.mono (show N ≤ _ by have := HB.out.size; have := HN.out; omega)))
  clear hbr1
  go_upto_region 2 with fail
  refine wp_region_whole [0, 1, 2, 3, 4, 5, 6, 7, 8, 9, 10] [⟨11, _, 86, (WB 0), 6, 12, _, 86, 35, (WB c11)⟩] [12, 11] (by kernel_rfl) (by kernel_rfl) (List.forall_mem_cons.2 ⟨⟨⟨rfl, rfl, rfl, fun a w => alloc_run _ _ zWo a _ rfl w⟩, rfl, rfl, rfl, rfl, (WB_rw c11).info (by kernel_rfl), (WB_rw 0).same (WB_rw c11), (WB_rw c11).one⟩, (List.forall_mem_nil _)⟩) rfl ?_
  simp only [List.foldl, List.eraseIdx_cons_succ, List.eraseIdx_cons_zero]
  refine upW_late (by rfl) (.pointer (some ⟨N, 4, none⟩)) (fun _ => by kernel_rfl) ?_
  simp only [Act.put, List.setIfInBounds_toArray, List.set]
  refine upW_val (by rfl) (by rfl) (by rfl) (fun K hK => quiet_load_part _ _ rfl N 4 rfl 88 (WR a b c d) (WB b) 4 (WB_rw b) _ HX0.out (WR_1 a b c d) Try.underlying86 rfl (by kernel_rfl) (hK _ ?_))
  simp only [Act.put, List.setIfInBounds_toArray, List.set]
  refine upW_late (by rfl) (.pointer (some ⟨N, 0, none⟩)) (fun _ => by kernel_rfl) ?_
  simp only [Act.put, List.setIfInBounds_toArray, List.set]
  refine upW_val (by rfl) (by rfl) (by rfl) (fun K hK => quiet_load_part _ _ rfl N 0 rfl 88 (WR a b c d) (WB a) 4 (WB_rw a) _ HX0.out (WR_0 a b c d) Try.underlying86 rfl (by kernel_rfl) (hK _ ?_))
  simp only [Act.put, List.setIfInBounds_toArray, List.set]
  refine upW_call (by rfl) (by rfl) (.agg (WB c7)) _ rfl (by simp) (fun p => ?_) ?_
  · go_big_quiet_op
    exact ⟨_, fun q => Calls.ext_of (HQ8.out q.x), rfl⟩
  simp only [Act.put, List.setIfInBounds_toArray, List.set]
  refine upW_late (by rfl) (.pointer (some ⟨(N + 1), 4, none⟩)) (fun _ => by kernel_rfl) ?_
  simp only [Act.put, List.setIfInBounds_toArray, List.set]
  refine upW_val (by rfl) (by rfl) (by rfl) (fun K hK => quiet_load_part _ _ rfl (N + 1) 4 rfl 88 (WR a' b' c' d') (WB b') 4 (WB_rw b') _ HX1.out (WR_1 a' b' c' d') Try.underlying86 rfl (by kernel_rfl) (hK _ ?_))
  simp only [Act.put, List.setIfInBounds_toArray, List.set]
  refine upW_late (by rfl) (.pointer (some ⟨(N + 1), 0, none⟩)) (fun _ => by kernel_rfl) ?_
  simp only [Act.put, List.setIfInBounds_toArray, List.set]
  refine upW_val (by rfl) (by rfl) (by rfl) (fun K hK => quiet_load_part _ _ rfl (N + 1) 0 rfl 88 (WR a' b' c' d') (WB a') 4 (WB_rw a') _ HX1.out (WR_0 a' b' c' d') Try.underlying86 rfl (by kernel_rfl) (hK _ ?_))
  simp only [Act.put, List.setIfInBounds_toArray, List.set]
  refine upW_call (by rfl) (by rfl) (.agg (WB c9)) _ rfl (by simp) (fun p => ?_) ?_
  · go_big_quiet_op
    exact ⟨_, fun q => Calls.ext_of (HQ10.out q.x), rfl⟩
  simp only [Act.put, List.setIfInBounds_toArray, List.set]
  refine upW_call (by rfl) (by rfl) (.agg (WB c11)) _ rfl (by simp) (fun p => ?_) ?_
  · go_big_quiet_op
    exact ⟨_, fun q => Calls.ext_of (HQ12.out q.x), rfl⟩
  simp only [Act.put, List.setIfInBounds_toArray, List.set]
  refine upW_nil ⟨(List.forall_mem_cons.2 ⟨rfl, (List.forall_mem_nil _)⟩), fun M wr2 hM hne hbr2 => ?_⟩
  have hm0 := hM _ (List.mem_cons_self ..)
  clear hM hne
  simp only [List.foldr, pS, Act.put, List.setIfInBounds_toArray, List.set]
  obtain ⟨B2x0, hB2x0⟩ : ∃ m, M 11 = m := ⟨_, rfl⟩
  have HB2x0 := Lib.hid (show CT wr2 B2x0 86 (WB c11) by rw [← hB2x0]; exact hm0.2)
  have hlB2x0X0 : N < B2x0 := by rw [← hB2x0]; exact Nat.lt_of_lt_of_le HX0.out.lt hm0.1
  have hlB2x0X1 : (N + 1) < B2x0 := by rw [← hB2x0]; exact Nat.lt_of_lt_of_le HX1.out.lt hm0.1
  have hlB2x0X2 : (N + 1 + 1) < B2x0 := by rw [← hB2x0]; exact Nat.lt_of_lt_of_le HX2.out.lt hm0.1
  have hlB2x0B1x0 : B1x0 < B2x0 := by rw [← hB2x0]; exact Nat.lt_of_lt_of_le HB1x0.out.lt hm0.1
  have hNB2x0 : N ≤ B2x0 := by rw [← hB2x0]; exact Nat.le_trans (by have := HB.out.size; have := HN.out; omega) hm0.1
  rw [hB2x0]
  clear hm0 hB2x0
  replace HX0 := Lib.hid (HX0.out.ext hbr2)
  replace HX1 := Lib.hid (HX1.out.ext hbr2)
  replace HX2 := Lib.hid (HX2.out.ext hbr2)
  replace HB1x0 := Lib.hid (HB1x0.out.ext hbr2)
  replace HB := Lib.hid (HB.out.trans (hbr2.mono (show N ≤ _ by have := HB.out.size; have := HN.out; omega)))
  clear hbr2
  go_upto_region 3 with fail
  refine wp_region_seq 5 ?_
  simp only [List.take_succ_cons, List.take_zero, List.drop_succ_cons, List.drop_zero]
  refine upW_late (by rfl) (.pointer (some ⟨N, 12, none⟩)) (fun _ => by kernel_rfl) ?_
  simp only [Act.put, List.setIfInBounds_toArray, List.set]
  refine upW_val (by rfl) (by rfl) (by rfl) (fun K hK => quiet_load_part _ _ rfl N 12 rfl 88 (WR a b c d) (WB d) 4 (WB_rw d) _ HX0.out (WR_3 a b c d) Try.underlying86 rfl (by kernel_rfl) (hK _ ?_))
  simp only [Act.put, List.setIfInBounds_toArray, List.set]
  refine upW_late (by rfl) (.pointer (some ⟨(N + 1), 12, none⟩)) (fun _ => by kernel_rfl) ?_
  simp only [Act.put, List.setIfInBounds_toArray, List.set]
  refine upW_val (by rfl) (by rfl) (by rfl) (fun K hK => quiet_load_part _ _ rfl (N + 1) 12 rfl 88 (WR a' b' c' d') (WB d') 4 (WB_rw d') _ HX1.out (WR_3 a' b' c' d') Try.underlying86 rfl (by kernel_rfl) (hK _ ?_))
  simp only [Act.put, List.setIfInBounds_toArray, List.set]
  refine upW_call (by rfl) (by rfl) (.agg (WB c13)) _ rfl (by simp) (fun p => ?_) ?_
  · go_big_quiet_op
    exact ⟨_, fun q => Calls.ext_of (HQ14.out q.x), rfl⟩
  simp only [Act.put, List.setIfInBounds_toArray, List.set]
  refine upW_nil (fun wr3 hbr3 => ?_)
  replace HX0 := Lib.hid (HX0.out.ext hbr3)
  replace HX1 := Lib.hid (HX1.out.ext hbr3)
  replace HX2 := Lib.hid (HX2.out.ext hbr3)
  replace HB1x0 := Lib.hid (HB1x0.out.ext hbr3)
  replace HB2x0 := Lib.hid (HB2x0.out.ext hbr3)
  replace HB := Lib.hid (HB.out.trans (hbr3.mono (show N ≤ _ by have := HB.out.size; have := HN.out; omega)))
  clear hbr3
  refine wpList_new1 rfl 86 rfl (WB 0) zWo rfl _ _ rfl rfl (WB c13) 4 (WB_rw c13) (WB_rw 0).size (by kernel_rfl) rfl rfl (fun B4 wr4 hB4 hbr4 hCB4 => ?_)
  have HB4 := Lib.hid hCB4
  have hlB4X0 : N < B4 := by rw [← hB4]; exact HX0.out.lt
  have hlB4X1 : (N + 1) < B4 := by rw [← hB4]; exact HX1.out.lt
  have hlB4X2 : (N + 1 + 1) < B4 := by rw [← hB4]; exact HX2.out.lt
  have hlB4B1x0 : B1x0 < B4 := by rw [← hB4]; exact HB1x0.out.lt
  have hlB4B2x0 : B2x0 < B4 := by rw [← hB4]; exact HB2x0.out.lt
  have hNB4 : N ≤ B4 := by rw [← hB4]; have := HB.out.size; have := HN.out; omega
  clear hB4 hCB4
  simp only [Act.put, List.setIfInBounds_toArray, List.set]
  replace HX0 := Lib.hid (HX0.out.ext hbr4)
  replace HX1 := Lib.hid (HX1.out.ext hbr4)
  replace HX2 := Lib.hid (HX2.out.ext hbr4)
  replace HB1x0 := Lib.hid (HB1x0.out.ext hbr4)
  replace HB2x0 := Lib.hid (HB2x0.out.ext hbr4)
  replace HB := Lib.hid (HB.out.trans (hbr4.mono (show N ≤ _ by have := HB.out.size; have := HN.out; omega)))
  clear hbr4
  go_upto_region 4 with fail
  refine wp_region_seq 5 ?_
  simp only [List.take_succ_cons, List.take_zero, List.drop_succ_cons, List.drop_zero]
  refine upW_val (by rfl) (by rfl) (by rfl) (fun K hK => quiet_load_ct _ _ rfl B4 rfl 86 (WB c13) 4 (WB_rw c13) _ HB4.out Try.underlying86 rfl (by kernel_rfl) (hK _ ?_))
  simp only [Act.put, List.setIfInBounds_toArray, List.set]
  refine upW_val (by rfl) (by rfl) (by rfl) (fun K hK => quiet_load_ct _ _ rfl B4 rfl 86 (WB c13) 4 (WB_rw c13) _ HB4.out Try.underlying86 rfl (by kernel_rfl) (hK _ ?_))
  simp only [Act.put, List.setIfInBounds_toArray, List.set]
  refine upW_call (by rfl) (by rfl) (.agg (WB c15)) _ rfl (by simp) (fun p => ?_) ?_
  · go_big_quiet_op
    exact ⟨_, fun q => Calls.ext_of (HQ16.out q.x), rfl⟩
  simp only [Act.put, List.setIfInBounds_toArray, List.set]
  refine upW_call (by rfl) (by rfl) (.agg (WB cD)) _ rfl (by simp) (fun p => ?_) ?_
  · go_big_quiet_op
    exact ⟨_, fun q => Calls.ext_of (dee_any q.x), rfl⟩
  simp only [Act.put, List.setIfInBounds_toArray, List.set]
  refine upW_call (by rfl) (by rfl) (.agg (WB c17)) _ rfl (by simp) (fun p => ?_) ?_
  · go_big_quiet_op
    exact ⟨_, fun q => Calls.ext_of (HQ18.out q.x), rfl⟩
  simp only [Act.put, List.setIfInBounds_toArray, List.set]
  refine upW_nil (fun wr5 hbr5 => ?_)
  replace HX0 := Lib.hid (HX0.out.ext hbr5)
  replace HX1 := Lib.hid (HX1.out.ext hbr5)
  replace HX2 := Lib.hid (HX2.out.ext hbr5)
  replace HB1x0 := Lib.hid (HB1x0.out.ext hbr5)
  replace HB2x0 := Lib.hid (HB2x0.out.ext hbr5)
  replace HB4 := Lib.hid (HB4.out.ext hbr5)
  replace HB := Lib.hid (HB.out.trans (hbr5.mono (show N ≤ _ by have := HB.out.size; have := HN.out; omega)))
  clear hbr5
  refine wpList_new1 rfl 86 rfl (WB 0) zWo rfl _ _ rfl rfl (WB c17) 4 (WB_rw c17) (WB_rw 0).size (by kernel_rfl) rfl rfl (fun B6 wr6 hB6 hbr6 hCB6 => ?_)
  have HB6 := Lib.hid hCB6
  have hlB6X0 : N < B6 := by rw [← hB6]; exact HX0.out.lt
  have hlB6X1 : (N + 1) < B6 := by rw [← hB6]; exact HX1.out.lt
  have hlB6X2 : (N + 1 + 1) < B6 := by rw [← hB6]; exact HX2.out.lt
  have hlB6B1x0 : B1x0 < B6 := by rw [← hB6]; exact HB1x0.out.lt
  have hlB6B2x0 : B2x0 < B6 := by rw [← hB6]; exact HB2x0.out.lt
  have hlB6B4 : B4 < B6 := by rw [← hB6]; exact HB4.out.lt
  have hNB6 : N ≤ B6 := by rw [← hB6]; have := HB.out.size; have := HN.out; omega
  clear hB6 hCB6
  simp only [Act.put, List.setIfInBounds_toArray, List.set]
  replace HX0 := Lib.hid (HX0.out.ext hbr6)
  replace HX1 := Lib.hid (HX1.out.ext hbr6)
  replace HX2 := Lib.hid (HX2.out.ext hbr6)
  replace HB1x0 := Lib.hid (HB1x0.out.ext hbr6)
  replace HB2x0 := Lib.hid (HB2x0.out.ext hbr6)
  replace HB4 := Lib.hid (HB4.out.ext hbr6)
  replace HB := Lib.hid (HB.out.trans (hbr6.mono (show N ≤ _ by have := HB.out.size; have := HN.out; omega)))
  clear hbr6
  go_upto_region 5 with fail
  refine wp_region_seq 5 ?_
  simp only [List.take_succ_cons, List.take_zero, List.drop_succ_cons, List.drop_zero]
  refine upW_late (by rfl) (.pointer (some ⟨N, 8, none⟩)) (fun _ => by kernel_rfl) ?_
  simp only [Act.put, List.setIfInBounds_toArray, List.set]
  refine upW_val (by rfl) (by rfl) (by rfl) (fun K hK => quiet_load_part _ _ rfl N 8 rfl 88 (WR a b c d) (WB c) 4 (WB_rw c) _ HX0.out (WR_2 a b c d) Try.underlying86 rfl (by kernel_rfl) (hK _ ?_))
  simp only [Act.put, List.setIfInBounds_toArray, List.set]
  refine upW_late (by rfl) (.pointer (some ⟨(N + 1), 8, none⟩)) (fun _ => by kernel_rfl) ?_
  simp only [Act.put, List.setIfInBounds_toArray, List.set]
  refine upW_val (by rfl) (by rfl) (by rfl) (fun K hK => quiet_load_part _ _ rfl (N + 1) 8 rfl 88 (WR a' b' c' d') (WB c') 4 (WB_rw c') _ HX1.out (WR_2 a' b' c' d') Try.underlying86 rfl (by kernel_rfl) (hK _ ?_))
  simp only [Act.put, List.setIfInBounds_toArray, List.set]
  refine upW_call (by rfl) (by rfl) (.agg (WB c19)) _ rfl (by simp) (fun p => ?_) ?_
  · go_big_quiet_op
    exact ⟨_, fun q => Calls.ext_of (HQ20.out q.x), rfl⟩
  simp only [Act.put, List.setIfInBounds_toArray, List.set]
  refine upW_nil (fun wr7 hbr7 => ?_)
  replace HX0 := Lib.hid (HX0.out.ext hbr7)
  replace HX1 := Lib.hid (HX1.out.ext hbr7)
  replace HX2 := Lib.hid (HX2.out.ext hbr7)
  replace HB1x0 := Lib.hid (HB1x0.out.ext hbr7)
  replace HB2x0 := Lib.hid (HB2x0.out.ext hbr7)
  replace HB4 := Lib.hid (HB4.out.ext hbr7)
  replace HB6 := Lib.hid (HB6.out.ext hbr7)
  replace HB := Lib.hid (HB.out.trans (hbr7.mono (show N ≤ _ by have := HB.out.size; have := HN.out; omega)))
  clear hbr7
  refine wpList_new1 rfl 86 rfl (WB 0) zWo rfl _ _ rfl rfl (WB c19) 4 (WB_rw c19) (WB_rw 0).size (by kernel_rfl) rfl rfl (fun B8 wr8 hB8 hbr8 hCB8 => ?_)
  have HB8 := Lib.hid hCB8
  have hlB8X0 : N < B8 := by rw [← hB8]; exact HX0.out.lt
  have hlB8X1 : (N + 1) < B8 := by rw [← hB8]; exact HX1.out.lt
  have hlB8X2 : (N + 1 + 1) < B8 := by rw [← hB8]; exact HX2.out.lt
  have hlB8B1x0 : B1x0 < B8 := by rw [← hB8]; exact HB1x0.out.lt
  have hlB8B2x0 : B2x0 < B8 := by rw [← hB8]; exact HB2x0.out.lt
  have hlB8B4 : B4 < B8 := by rw [← hB8]; exact HB4.out.lt
  have hlB8B6 : B6 < B8 := by rw [← hB8]; exact HB6.out.lt
  have hNB8 : N ≤ B8 := by rw [← hB8]; have := HB.out.size; have := HN.out; omega
  clear hB8 hCB8
  simp only [Act.put, List.setIfInBounds_toArray, List.set]
  replace HX0 := Lib.hid (HX0.out.ext hbr8)
  replace HX1 := Lib.hid (HX1.out.ext hbr8)
  replace HX2 := Lib.hid (HX2.out.ext hbr8)
  replace HB1x0 := Lib.hid (HB1x0.out.ext hbr8)
  replace HB2x0 := Lib.hid (HB2x0.out.ext hbr8)
  replace HB4 := Lib.hid (HB4.out.ext hbr8)
  replace HB6 := Lib.hid (HB6.out.ext hbr8)
  replace HB := Lib.hid (HB.out.trans (hbr8.mono (show N ≤ _ by have := HB.out.size; have := HN.out; omega)))
  clear hbr8
  go_upto_region 6 with fail
  refine wp_region_seq 3 ?_
  simp only [List.take_succ_cons, List.take_zero, List.drop_succ_cons, List.drop_zero]
  refine upW_val (by rfl) (by rfl) (by rfl) (fun K hK => quiet_load_ct _ _ rfl B8 rfl 86 (WB c19) 4 (WB_rw c19) _ HB8.out Try.underlying86 rfl (by kernel_rfl) (hK _ ?_))
  simp only [Act.put, List.setIfInBounds_toArray, List.set]
  refine upW_val (by rfl) (by rfl) (by rfl) (fun K hK => quiet_load_ct _ _ rfl B8 rfl 86 (WB c19) 4 (WB_rw c19) _ HB8.out Try.underlying86 rfl (by kernel_rfl) (hK _ ?_))
  simp only [Act.put, List.setIfInBounds_toArray, List.set]
  refine upW_call (by rfl) (by rfl) (.agg (WB c21)) _ rfl (by simp) (fun p => ?_) ?_
  · go_big_quiet_op
    exact ⟨_, fun q => Calls.ext_of (HQ22.out q.x), rfl⟩
  simp only [Act.put, List.setIfInBounds_toArray, List.set]
  refine upW_nil (fun wr9 hbr9 => ?_)
  replace HX0 := Lib.hid (HX0.out.ext hbr9)
  replace HX1 := Lib.hid (HX1.out.ext hbr9)
  replace HX2 := Lib.hid (HX2.out.ext hbr9)
  replace HB1x0 := Lib.hid (HB1x0.out.ext hbr9)
  replace HB2x0 := Lib.hid (HB2x0.out.ext hbr9)
  replace HB4 := Lib.hid (HB4.out.ext hbr9)
  replace HB6 := Lib.hid (HB6.out.ext hbr9)
  replace HB8 := Lib.hid (HB8.out.ext hbr9)
  replace HB := Lib.hid (HB.out.trans (hbr9.mono (show N ≤ _ by have := HB.out.size; have := HN.out; omega)))
  clear hbr9
  refine wpList_store_ct rfl 86 _ _ rfl B8 (WB c21) rfl rfl 86 (WB c19) 4 HB8.out (by kernel_rfl) (WB_rw c19) (WB_rw c21) rfl (fun wr10 hSwr10 hOwr10 hWwr10 => ?_)
  replace HB8 := Lib.hid hSwr10
  replace HB := Lib.hid (hWwr10 _ _ HB.out (by omega))
  replace HX0 := Lib.hid (HX0.out.other (hOwr10 _ (by omega)))
  replace HX1 := Lib.hid (HX1.out.other (hOwr10 _ (by omega)))
  replace HX2 := Lib.hid (HX2.out.other (hOwr10 _ (by omega)))
  replace HB1x0 := Lib.hid (HB1x0.out.other (hOwr10 _ (by omega)))
  replace HB2x0 := Lib.hid (HB2x0.out.other (hOwr10 _ (by omega)))
  replace HB4 := Lib.hid (HB4.out.other (hOwr10 _ (by omega)))
  replace HB6 := Lib.hid (HB6.out.other (hOwr10 _ (by omega)))
  clear hSwr10 hOwr10 hWwr10
  go_upto_region 7 with fail
  refine wp_region_whole [0, 1, 2, 3, 4, 5, 6, 7, 8, 9, 10, 11] [⟨12, _, 86, (WB 0), 10, 16, _, 86, 56, (WB c23)⟩, ⟨13, _, 86, (WB 0), 11, 17, _, 86, 59, (WB c25)⟩, ⟨14, _, 86, (WB 0), 12, 18, _, 86, 62, (WB c27)⟩, ⟨15, _, 86, (WB 0), 13, 19, _, 86, 65, (WB c29)⟩] [19, 18, 17, 16, 15, 14, 13, 12] (by kernel_rfl) (by kernel_rfl) (List.forall_mem_cons.2 ⟨⟨⟨rfl, rfl, rfl, fun a w => alloc_run _ _ zWo a _ rfl w⟩, rfl, rfl, rfl, rfl, (WB_rw c23).info (by kernel_rfl), (WB_rw 0).same (WB_rw c23), (WB_rw c23).one⟩, (List.forall_mem_cons.2 ⟨⟨⟨rfl, rfl, rfl, fun a w => alloc_run _ _ zWo a _ rfl w⟩, rfl, rfl, rfl, rfl, (WB_rw c25).info (by kernel_rfl), (WB_rw 0).same (WB_rw c25), (WB_rw c25).one⟩, (List.forall_mem_cons.2 ⟨⟨⟨rfl, rfl, rfl, fun a w => alloc_run _ _ zWo a _ rfl w⟩, rfl, rfl, rfl, rfl, (WB_rw c27).info (by kernel_rfl), (WB_rw 0).same (WB_rw c27), (WB_rw c27).one⟩, (List.forall_mem_cons.2 ⟨⟨⟨rfl, rfl, rfl, fun a w => alloc_run _ _ zWo a _ rfl w⟩, rfl, rfl, rfl, rfl, (WB_rw c29).info (by kernel_rfl), (WB_rw 0).same (WB_rw c29), (WB_rw c29).one⟩, (List.forall_mem_nil _)⟩)⟩)⟩)⟩) rfl ?_
  simp only [List.foldl, List.eraseIdx_cons_succ, List.eraseIdx_cons_zero]
  refine upW_val (by rfl) (by rfl) (by rfl) (fun K hK => quiet_load_ct _ _ rfl B2x0 rfl 86 (WB c11) 4 (WB_rw c11) _ HB2x0.out Try.underlying86 rfl (by kernel_rfl) (hK _ ?_))
  simp only [Act.put, List.setIfInBounds_toArray, List.set]
  refine upW_val (by rfl) (by rfl) (by rfl) (fun K hK => quiet_load_ct _ _ rfl B1x0 rfl 86 (WB c5) 4 (WB_rw c5) _ HB1x0.out Try.underlying86 rfl (by kernel_rfl) (hK _ ?_))
  simp only [Act.put, List.setIfInBounds_toArray, List.set]
  refine upW_call (by rfl) (by rfl) (.agg (WB c23)) _ rfl (by simp) (fun p => ?_) ?_
  · go_big_quiet_op
    exact ⟨_, fun q => Calls.ext_of (HQ24.out q.x), rfl⟩
  simp only [Act.put, List.setIfInBounds_toArray, List.set]
  refine upW_val (by rfl) (by rfl) (by rfl) (fun K hK => quiet_load_ct _ _ rfl B8 rfl 86 (WB c21) 4 (WB_rw c21) _ HB8.out Try.underlying86 rfl (by kernel_rfl) (hK _ ?_))
  simp only [Act.put, List.setIfInBounds_toArray, List.set]
  refine upW_val (by rfl) (by rfl) (by rfl) (fun K hK => quiet_load_ct _ _ rfl B6 rfl 86 (WB c17) 4 (WB_rw c17) _ HB6.out Try.underlying86 rfl (by kernel_rfl) (hK _ ?_))
  simp only [Act.put, List.setIfInBounds_toArray, List.set]
  refine upW_call (by rfl) (by rfl) (.agg (WB c25)) _ rfl (by simp) (fun p => ?_) ?_
  · go_big_quiet_op
    exact ⟨_, fun q => Calls.ext_of (HQ26.out q.x), rfl⟩
  simp only [Act.put, List.setIfInBounds_toArray, List.set]
  refine upW_val (by rfl) (by rfl) (by rfl) (fun K hK => quiet_load_ct _ _ rfl B8 rfl 86 (WB c21) 4 (WB_rw c21) _ HB8.out Try.underlying86 rfl (by kernel_rfl) (hK _ ?_))
  simp only [Act.put, List.setIfInBounds_toArray, List.set]
  refine upW_val (by rfl) (by rfl) (by rfl) (fun K hK => quiet_load_ct _ _ rfl B6 rfl 86 (WB c17) 4 (WB_rw c17) _ HB6.out Try.underlying86 rfl (by kernel_rfl) (hK _ ?_))
  simp only [Act.put, List.setIfInBounds_toArray, List.set]
  refine upW_call (by rfl) (by rfl) (.agg (WB c27)) _ rfl (by simp) (fun p => ?_) ?_
  · go_big_quiet_op
    exact ⟨_, fun q => Calls.ext_of (HQ28.out q.x), rfl⟩
  simp only [Act.put, List.setIfInBounds_toArray, List.set]
  refine upW_val (by rfl) (by rfl) (by rfl) (fun K hK => quiet_load_ct _ _ rfl B2x0 rfl 86 (WB c11) 4 (WB_rw c11) _ HB2x0.out Try.underlying86 rfl (by kernel_rfl) (hK _ ?_))
  simp only [Act.put, List.setIfInBounds_toArray, List.set]
  refine upW_val (by rfl) (by rfl) (by rfl) (fun K hK => quiet_load_ct _ _ rfl B1x0 rfl 86 (WB c5) 4 (WB_rw c5) _ HB1x0.out Try.underlying86 rfl (by kernel_rfl) (hK _ ?_))
  simp only [Act.put, List.setIfInBounds_toArray, List.set]
  refine upW_call (by rfl) (by rfl) (.agg (WB c29)) _ rfl (by simp) (fun p => ?_) ?_
  · go_big_quiet_op
    exact ⟨_, fun q => Calls.ext_of (HQ30.out q.x), rfl⟩
  simp only [Act.put, List.setIfInBounds_toArray, List.set]
  refine upW_nil ⟨(List.forall_mem_cons.2 ⟨rfl, (List.forall_mem_cons.2 ⟨rfl, (List.forall_mem_cons.2 ⟨rfl, (List.forall_mem_cons.2 ⟨rfl, (List.forall_mem_nil _)⟩)⟩)⟩)⟩), fun M wr11 hM hne hbr11 => ?_⟩
  have hm0 := hM _ (List.mem_cons_self ..)
  have hm1 := hM _ (List.mem_cons_of_mem _ (List.mem_cons_self ..))
  have hm2 := hM _ (List.mem_cons_of_mem _ (List.mem_cons_of_mem _ (List.mem_cons_self ..)))
  have hm3 := hM _ (List.mem_cons_of_mem _ (List.mem_cons_of_mem _ (List.mem_cons_of_mem _ (List.mem_cons_self ..))))
  have hn11x01 : M 12 ≠ M 13 := hne _ (List.mem_cons_self ..) _ (List.mem_cons_of_mem _ (List.mem_cons_self ..)) (show (12 : Nat) ≠ 13 by decide)
  have hn11x02 : M 12 ≠ M 14 := hne _ (List.mem_cons_self ..) _ (List.mem_cons_of_mem _ (List.mem_cons_of_mem _ (List.mem_cons_self ..))) (show (12 : Nat) ≠ 14 by decide)
  have hn11x03 : M 12 ≠ M 15 := hne _ (List.mem_cons_self ..) _ (List.mem_cons_of_mem _ (List.mem_cons_of_mem _ (List.mem_cons_of_mem _ (List.mem_cons_self ..)))) (show (12 : Nat) ≠ 15 by decide)
  have hn11x12 : M 13 ≠ M 14 := hne _ (List.mem_cons_of_mem _ (List.mem_cons_self ..)) _ (List.mem_cons_of_mem _ (List.mem_cons_of_mem _ (List.mem_cons_self ..))) (show (13 : Nat) ≠ 14 by decide)
  have hn11x13 : M 13 ≠ M 15 := hne _ (List.mem_cons_of_mem _ (List.mem_cons_self ..)) _ (List.mem_cons_of_mem _ (List.mem_cons_of_mem _ (List.mem_cons_of_mem _ (List.mem_cons_self ..)))) (show (13 : Nat) ≠ 15 by decide)
  have hn11x23 : M 14 ≠ M 15 := hne _ (List.mem_cons_of_mem _ (List.mem_cons_of_mem _ (List.mem_cons_self ..))) _ (List.mem_cons_of_mem _ (List.mem_cons_of_mem _ (List.mem_cons_of_mem _ (List.mem_cons_self ..)))) (show (14 : Nat) ≠ 15 by decide)
  clear hM hne
  simp only [List.foldr, pS, Act.put, List.setIfInBounds_toArray, List.set]
  obtain ⟨B11x0, hB11x0⟩ : ∃ m, M 12 = m := ⟨_, rfl⟩
  have HB11x0 := Lib.hid (show CT wr11 B11x0 86 (WB c23) by rw [← hB11x0]; exact hm0.2)
  have hlB11x0X0 : N < B11x0 := by rw [← hB11x0]; exact Nat.lt_of_lt_of_le HX0.out.lt hm0.1
  have hlB11x0X1 : (N + 1) < B11x0 := by rw [← hB11x0]; exact Nat.lt_of_lt_of_le HX1.out.lt hm0.1
  have hlB11x0X2 : (N + 1 + 1) < B11x0 := by rw [← hB11x0]; exact Nat.lt_of_lt_of_le HX2.out.lt hm0.1
  have hlB11x0B1x0 : B1x0 < B11x0 := by rw [← hB11x0]; exact Nat.lt_of_lt_of_le HB1x0.out.lt hm0.1
  have hlB11x0B2x0 : B2x0 < B11x0 := by rw [← hB11x0]; exact Nat.lt_of_lt_of_le HB2x0.out.lt hm0.1
  have hlB11x0B4 : B4 < B11x0 := by rw [← hB11x0]; exact Nat.lt_of_lt_of_le HB4.out.lt hm0.1
  have hlB11x0B6 : B6 < B11x0 := by rw [← hB11x0]; exact Nat.lt_of_lt_of_le HB6.out.lt hm0.1
  have hlB11x0B8 : B8 < B11x0 := by rw [← hB11x0]; exact Nat.lt_of_lt_of_le HB8.out.lt hm0.1
  have hNB11x0 : N ≤ B11x0 := by rw [← hB11x0]; exact Nat.le_trans (by have := HB.out.size; have := HN.out; omega) hm0.1
  obtain ⟨B11x1, hB11x1⟩ : ∃ m, M 13 = m := ⟨_, rfl⟩
  have HB11x1 := Lib.hid (show CT wr11 B11x1 86 (WB c25) by rw [← hB11x1]; exact hm1.2)
  have hlB11x1X0 : N < B11x1 := by rw [← hB11x1]; exact Nat.lt_of_lt_of_le HX0.out.lt hm1.1
  have hlB11x1X1 : (N + 1) < B11x1 := by rw [← hB11x1]; exact Nat.lt_of_lt_of_le HX1.out.lt hm1.1
  have hlB11x1X2 : (N + 1 + 1) < B11x1 := by rw [← hB11x1]; exact Nat.lt_of_lt_of_le HX2.out.lt hm1.1
  have hlB11x1B1x0 : B1x0 < B11x1 := by rw [← hB11x1]; exact Nat.lt_of_lt_of_le HB1x0.out.lt hm1.1
  have hlB11x1B2x0 : B2x0 < B11x1 := by rw [← hB11x1]; exact Nat.lt_of_lt_of_le HB2x0.out.lt hm1.1
  have hlB11x1B4 : B4 < B11x1 := by rw [← hB11x1]; exact Nat.lt_of_lt_of_le HB4.out.lt hm1.1
  have hlB11x1B6 : B6 < B11x1 := by rw [← hB11x1]; exact Nat.lt_of_lt_of_le HB6.out.lt hm1.1
  have hlB11x1B8 : B8 < B11x1 := by rw [← hB11x1]; exact Nat.lt_of_lt_of_le HB8.out.lt hm1.1
  have hNB11x1 : N ≤ B11x1 := by rw [← hB11x1]; exact Nat.le_trans (by have := HB.out.size; have := HN.out; omega) hm1.1
  obtain ⟨B11x2, hB11x2⟩ : ∃ m, M 14 = m := ⟨_, rfl⟩
  have HB11x2 := Lib.hid (show CT wr11 B11x2 86 (WB c27) by rw [← hB11x2]; exact hm2.2)
  have hlB11x2X0 : N < B11x2 := by rw [← hB11x2]; exact Nat.lt_of_lt_of_le HX0.out.lt hm2.1
  have hlB11x2X1 : (N + 1) < B11x2 := by rw [← hB11x2]; exact Nat.lt_of_lt_of_le HX1.out.lt hm2.1
  have hlB11x2X2 : (N + 1 + 1) < B11x2 := by rw [← hB11x2]; exact Nat.lt_of_lt_of_le HX2.out.lt hm2.1
  have hlB11x2B1x0 : B1x0 < B11x2 := by rw [← hB11x2]; exact Nat.lt_of_lt_of_le HB1x0.out.lt hm2.1
  have hlB11x2B2x0 : B2x0 < B11x2 := by rw [← hB11x2]; exact Nat.lt_of_lt_of_le HB2x0.out.lt hm2.1
  have hlB11x2B4 : B4 < B11x2 := by rw [← hB11x2]; exact Nat.lt_of_lt_of_le HB4.out.lt hm2.1
  have hlB11x2B6 : B6 < B11x2 := by rw [← hB11x2]; exact Nat.lt_of_lt_of_le HB6.out.lt hm2.1
  have hlB11x2B8 : B8 < B11x2 := by rw [← hB11x2]; exact Nat.lt_of_lt_of_le HB8.out.lt hm2.1
  have hNB11x2 : N ≤ B11x2 := by rw [← hB11x2]; exact Nat.le_trans (by have := HB.out.size; have := HN.out; omega) hm2.1
  obtain ⟨B11x3, hB11x3⟩ : ∃ m, M 15 = m := ⟨_, rfl⟩
  have HB11x3 := Lib.hid (show CT wr11 B11x3 86 (WB c29) by rw [← hB11x3]; exact hm3.2)
  have hlB11x3X0 : N < B11x3 := by rw [← hB11x3]; exact Nat.lt_of_lt_of_le HX0.out.lt hm3.1
  have hlB11x3X1 : (N + 1) < B11x3 := by rw [← hB11x3]; exact Nat.lt_of_lt_of_le HX1.out.lt hm3.1
  have hlB11x3X2 : (N + 1 + 1) < B11x3 := by rw [← hB11x3]; exact Nat.lt_of_lt_of_le HX2.out.lt hm3.1
  have hlB11x3B1x0 : B1x0 < B11x3 := by rw [← hB11x3]; exact Nat.lt_of_lt_of_le HB1x0.out.lt hm3.1
  have hlB11x3B2x0 : B2x0 < B11x3 := by rw [← hB11x3]; exact Nat.lt_of_lt_of_le HB2x0.out.lt hm3.1
  have hlB11x3B4 : B4 < B11x3 := by rw [← hB11x3]; exact Nat.lt_of_lt_of_le HB4.out.lt hm3.1
  have hlB11x3B6 : B6 < B11x3 := by rw [← hB11x3]; exact Nat.lt_of_lt_of_le HB6.out.lt hm3.1
  have hlB11x3B8 : B8 < B11x3 := by rw [← hB11x3]; exact Nat.lt_of_lt_of_le HB8.out.lt hm3.1
  have hNB11x3 : N ≤ B11x3 := by rw [← hB11x3]; exact Nat.le_trans (by have := HB.out.size; have := HN.out; omega) hm3.1
  rw [hB11x0, hB11x1] at hn11x01
  rw [hB11x0, hB11x2] at hn11x02
  rw [hB11x0, hB11x3] at hn11x03
  rw [hB11x1, hB11x2] at hn11x12
  rw [hB11x1, hB11x3] at hn11x13
  rw [hB11x2, hB11x3] at hn11x23
  rw [hB11x0, hB11x1, hB11x2, hB11x3]
  clear hm0 hB11x0 hm1 hB11x1 hm2 hB11x2 hm3 hB11x3
  replace HX0 := Lib.hid (HX0.out.ext hbr11)
  replace HX1 := Lib.hid (HX1.out.ext hbr11)
  replace HX2 := Lib.hid (HX2.out.ext hbr11)
  replace HB1x0 := Lib.hid (HB1x0.out.ext hbr11)
  replace HB2x0 := Lib.hid (HB2x0.out.ext hbr11)
  replace HB4 := Lib.hid (HB4.out.ext hbr11)
  replace HB6 := Lib.hid (HB6.out.ext hbr11)
  replace HB8 := Lib.hid (HB8.out.ext hbr11)
  replace HB := Lib.hid (HB.out.trans (hbr11.mono (show N ≤ _ by have := HB.out.size; have := HN.out; omega)))
  clear hbr11
  go_upto_region 8 with fail
  refine wp_region_upT 13 _ (by kernel_rfl) (by kernel_rfl) rfl (by kernel_rfl) (fun _ _ dst _ _ h => by cases dst <;> exact h) ?_
  simp only [List.take_succ_cons, List.take_zero, List.drop_succ_cons, List.drop_zero]
  refine upW_val (by rfl) (by rfl) (by rfl) (fun K hK => quiet_load_ct _ _ rfl B11x0 rfl 86 (WB c23) 4 (WB_rw c23) _ HB11x0.out Try.underlying86 rfl (by kernel_rfl) (hK _ ?_))
  simp only [Act.put, List.setIfInBounds_toArray, List.set]
  refine upW_val (by rfl) (by rfl) (by rfl) (fun K hK => quiet_load_ct _ _ rfl B11x1 rfl 86 (WB c25) 4 (WB_rw c25) _ HB11x1.out Try.underlying86 rfl (by kernel_rfl) (hK _ ?_))
  simp only [Act.put, List.setIfInBounds_toArray, List.set]
  refine upW_call (by rfl) (by rfl) (.agg (WB c31)) _ rfl (by simp) (fun p => ?_) ?_
  · go_big_quiet_op
    exact ⟨_, fun q => Calls.ext_of (HQ32.out q.x), rfl⟩
  simp only [Act.put, List.setIfInBounds_toArray, List.set]
  refine upW_val (by rfl) (by rfl) (by rfl) (fun K hK => quiet_load_ct _ _ rfl B11x2 rfl 86 (WB c27) 4 (WB_rw c27) _ HB11x2.out Try.underlying86 rfl (by kernel_rfl) (hK _ ?_))
  simp only [Act.put, List.setIfInBounds_toArray, List.set]
  refine upW_val (by rfl) (by rfl) (by rfl) (fun K hK => quiet_load_ct _ _ rfl B11x3 rfl 86 (WB c29) 4 (WB_rw c29) _ HB11x3.out Try.underlying86 rfl (by kernel_rfl) (hK _ ?_))
  simp only [Act.put, List.setIfInBounds_toArray, List.set]
  refine upW_call (by rfl) (by rfl) (.agg (WB c33)) _ rfl (by simp) (fun p => ?_) ?_
  · go_big_quiet_op
    exact ⟨_, fun q => Calls.ext_of (HQ34.out q.x), rfl⟩
  simp only [Act.put, List.setIfInBounds_toArray, List.set]
  refine upW_val (by rfl) (by rfl) (by rfl) (fun K hK => quiet_load_ct _ _ rfl B11x1 rfl 86 (WB c25) 4 (WB_rw c25) _ HB11x1.out Try.underlying86 rfl (by kernel_rfl) (hK _ ?_))
  simp only [Act.put, List.setIfInBounds_toArray, List.set]
  refine upW_val (by rfl) (by rfl) (by rfl) (fun K hK => quiet_load_ct _ _ rfl B11x2 rfl 86 (WB c27) 4 (WB_rw c27) _ HB11x2.out Try.underlying86 rfl (by kernel_rfl) (hK _ ?_))
  simp only [Act.put, List.setIfInBounds_toArray, List.set]
  refine upW_call (by rfl) (by rfl) (.agg (WB c35)) _ rfl (by simp) (fun p => ?_) ?_
  · go_big_quiet_op
    exact ⟨_, fun q => Calls.ext_of (HQ36.out q.x), rfl⟩
  simp only [Act.put, List.setIfInBounds_toArray, List.set]
  refine upW_val (by rfl) (by rfl) (by rfl) (fun K hK => quiet_load_ct _ _ rfl B11x0 rfl 86 (WB c23) 4 (WB_rw c23) _ HB11x0.out Try.underlying86 rfl (by kernel_rfl) (hK _ ?_))
  simp only [Act.put, List.setIfInBounds_toArray, List.set]
  refine upW_val (by rfl) (by rfl) (by rfl) (fun K hK => quiet_load_ct _ _ rfl B11x3 rfl 86 (WB c29) 4 (WB_rw c29) _ HB11x3.out Try.underlying86 rfl (by kernel_rfl) (hK _ ?_))
  simp only [Act.put, List.setIfInBounds_toArray, List.set]
  refine upW_call (by rfl) (by rfl) (.agg (WB c37)) _ rfl (by simp) (fun p => ?_) ?_
  · go_big_quiet_op
    exact ⟨_, fun q => Calls.ext_of (HQ38.out q.x), rfl⟩
  simp only [Act.put, List.setIfInBounds_toArray, List.set]
  refine upW_late (by rfl) (.agg (WR c31 c33 c35 c37)) (fun w => run_made_P _ _ _ _ _ _ rfl c31 c33 c35 c37 rfl rfl rfl rfl w) ?_
  simp only [Act.put, List.setIfInBounds_toArray, List.set]
  refine upW_nil (fun wr12 hbr12 => ?_)
  replace HX0 := Lib.hid (HX0.out.ext hbr12)
  replace HX1 := Lib.hid (HX1.out.ext hbr12)
  replace HX2 := Lib.hid (HX2.out.ext hbr12)
  replace HB1x0 := Lib.hid (HB1x0.out.ext hbr12)
  replace HB2x0 := Lib.hid (HB2x0.out.ext hbr12)
  replace HB4 := Lib.hid (HB4.out.ext hbr12)
  replace HB6 := Lib.hid (HB6.out.ext hbr12)
  replace HB8 := Lib.hid (HB8.out.ext hbr12)
  replace HB11x0 := Lib.hid (HB11x0.out.ext hbr12)
  replace HB11x1 := Lib.hid (HB11x1.out.ext hbr12)
  replace HB11x2 := Lib.hid (HB11x2.out.ext hbr12)
  replace HB11x3 := Lib.hid (HB11x3.out.ext hbr12)
  replace HB := Lib.hid (HB.out.trans (hbr12.mono (show N ≤ _ by have := HB.out.size; have := HN.out; omega)))
  clear hbr12
  refine wpList_store_ct rfl 88 _ _ rfl (N + 1 + 1) (WR c31 c33 c35 c37) rfl rfl 88 (WR 0 0 0 0) 16 HX2.out (by kernel_rfl) (WR_rw 0 0 0 0) (WR_rw c31 c33 c35 c37) rfl (fun wr13 hSwr13 hOwr13 hWwr13 => ?_)
  replace HX2 := Lib.hid hSwr13
  replace HB := Lib.hid (hWwr13 _ _ HB.out (by omega))
  replace HX0 := Lib.hid (HX0.out.other (hOwr13 _ (by omega)))
  replace HX1 := Lib.hid (HX1.out.other (hOwr13 _ (by omega)))
  replace HB1x0 := Lib.hid (HB1x0.out.other (hOwr13 _ (by omega)))
  replace HB2x0 := Lib.hid (HB2x0.out.other (hOwr13 _ (by omega)))
  replace HB4 := Lib.hid (HB4.out.other (hOwr13 _ (by omega)))
  replace HB6 := Lib.hid (HB6.out.other (hOwr13 _ (by omega)))
  replace HB8 := Lib.hid (HB8.out.other (hOwr13 _ (by omega)))
  replace HB11x0 := Lib.hid (HB11x0.out.other (hOwr13 _ (by omega)))
  replace HB11x1 := Lib.hid (HB11x1.out.other (hOwr13 _ (by omega)))
  replace HB11x2 := Lib.hid (HB11x2.out.other (hOwr13 _ (by omega)))
  replace HB11x3 := Lib.hid (HB11x3.out.other (hOwr13 _ (by omega)))
  clear hSwr13 hOwr13 hWwr13
  go_wp2
  refine bodyPost_ret (results_ct (by rfl) _ _ (N + 1 + 1) 88 (WR c31 c33 c35 c37) 16 _ (by rfl) HX2.out (WR_rw c31 c33 c35 c37) Try.underlying88 rfl (by kernel_rfl)) rfl ⟨by first | rfl | (simp only [HE1.out, HE3.out, HE5.out, HE7.out, HE9.out, HE11.out, HE13.out, HE15.out, HE17.out, HE19.out, HE21.out, HE23.out, HE25.out, HE27.out, HE29.out, HE31.out, HE33.out, HE35.out, HE37.out]), by rw [HN.out]; exact HB.out⟩
set_option maxRecDepth 100000 in
set_option maxHeartbeats 1000000 in
theorem packed_even (a b c d : Fp) (ho : decide ((a * finv c).val % 2 = 1) = false) (w : World) :
    Calls Try.prog 78 #[.agg (WR a b c d)] w fun e w' => e = .returned (.agg (PB (encXY (a * finv c) (b * finv c)))) ∧ Below w.heap.size w w' := by
  obtain ⟨x, hx⟩ : ∃ x : Fp, x = a * finv c := ⟨_, rfl⟩
  obtain ⟨y, hy⟩ : ∃ x : Fp, x = b * finv c := ⟨_, rfl⟩
  rw [← hx] at ho
  rw [← hx, ← hy]
  have HXE := Lib.hid hx
  have HYE := Lib.hid hy
  have HX0q := Lib.hid (WB_0 x)
  have HA1 := Lib.hid (show bits .and .u64 ((x.val % 18446744073709551616 : Nat) : Int) 1 = ((x.val % 2 : Nat) : Int) by rw [and1N _ (Nat.mod_lt _ (by decide))]; congr 1; omega)
  have HO := Lib.hid (show (((x.val % 2 : Nat) : Int) == 1) = false by rw [← ho, Bool.eq_iff_iff]; simp; omega)
  rw [encXY_even x y (of_decide_eq_false ho)]
  clear hx hy ho
  obtain ⟨c1, hc1⟩ : ∃ zq : Fp, zq = finv c := ⟨_, rfl⟩
  have HE1 := Lib.hid hc1
  clear hc1
  have HQ2 := Lib.hid (fun w => WB.inv c w)
  rw [← HE1.out] at HQ2
  have HQ3 := Lib.hid (fun w => WB.mul a c1 w)
  rw [show a * c1 = x by rw [HXE.out, HE1.out]] at HQ3
  have HQ4 := Lib.hid (fun w => WB.mul b c1 w)
  rw [show b * c1 = y by rw [HYE.out, HE1.out]] at HQ4
  have HQ5 := Lib.hid (WB.bytes y)
  have hz0 := zWo
  have hz1 := zBy
  go_enter Try.func78, Try.ntmps78
  go_upto_region 1 with fail
  generalize hW1 : World.alloc _ _ = W1
  obtain ⟨N, hN⟩ : ∃ n, w.heap.size = n := ⟨_, rfl⟩
  have HX0 := Lib.hid (show CT W1 N 88 (WR a b c d) by subst hW1; rw [← hN]; exact (allocs2_at w _ _).1)
  have HX1 := Lib.hid (show CT W1 (N + 1) 23 (PB 0) by subst hW1; rw [← hN]; exact (allocs2_at w _ _).2)
  have HB := Lib.hid (show Below N w W1 by subst hW1; rw [← hN]; exact allocs2_below w _ _)
  have HN := Lib.hid hN
  rw [hN]
  clear hW1 hN
  refine wp_region_seq 3 ?_
  simp only [List.take_succ_cons, List.take_zero, List.drop_succ_cons, List.drop_zero]
  refine upW_late (by rfl) (.pointer (some ⟨N, 8, none⟩)) (fun _ => by kernel_rfl) ?_
  simp only [Act.put, List.setIfInBounds_toArray, List.set]
  refine upW_val (by rfl) (by rfl) (by rfl) (fun K hK => quiet_load_part _ _ rfl N 8 rfl 88 (WR a b c d) (WB c) 4 (WB_rw c) _ HX0.out (WR_2 a b c d) Try.underlying86 rfl (by kernel_rfl) (hK _ ?_))
  simp only [Act.put, List.setIfInBounds_toArray, List.set]
  refine upW_call (by rfl) (by rfl) (.agg (WB c1)) _ rfl (by simp) (fun p => ?_) ?_
  · go_big_quiet_op
    exact ⟨_, fun q => Calls.ext_of (HQ2.out q.x), rfl⟩
  simp only [Act.put, List.setIfInBounds_toArray, List.set]
  refine upW_nil (fun wr1 hbr1 => ?_)
  replace HX0 := Lib.hid (HX0.out.ext hbr1)
  replace HX1 := Lib.hid (HX1.out.ext hbr1)
  replace HB := Lib.hid (HB.out.trans (hbr1.mono (show N ≤ _ by have := HB.out.size; have := HN.out; omega)))
  clear hbr1
  refine wpList_new1 rfl 86 rfl (WB 0) zWo rfl _ _ rfl rfl (WB c1) 4 (WB_rw c1) (WB_rw 0).size (by kernel_rfl) rfl rfl (fun B2 wr2 hB2 hbr2 hCB2 => ?_)
  have HB2 := Lib.hid hCB2
  have hlB2X0 : N < B2 := by rw [← hB2]; exact HX0.out.lt
  have hlB2X1 : (N + 1) < B2 := by rw [← hB2]; exact HX1.out.lt
  have hNB2 : N ≤ B2 := by rw [← hB2]; have := HB.out.size; have := HN.out; omega
  clear hB2 hCB2
  simp only [Act.put, List.setIfInBounds_toArray, List.set]
  replace HX0 := Lib.hid (HX0.out.ext hbr2)
  replace HX1 := Lib.hid (HX1.out.ext hbr2)
  replace HB := Lib.hid (HB.out.trans (hbr2.mono (show N ≤ _ by have := HB.out.size; have := HN.out; omega)))
  clear hbr2
  go_upto_region 2 with fail
  refine wp_region_whole [0, 1, 2, 3, 4, 5, 6, 7] [⟨8, _, 86, (WB 0), 4, 10, _, 86, 13, (WB x)⟩, ⟨9, _, 86, (WB 0), 5, 11, _, 86, 17, (WB y)⟩] [11, 10, 9, 8] (by kernel_rfl) (by kernel_rfl) (List.forall_mem_cons.2 ⟨⟨⟨rfl, rfl, rfl, fun a w => alloc_run _ _ zWo a _ rfl w⟩, rfl, rfl, rfl, rfl, (WB_rw x).info (by kernel_rfl), (WB_rw 0).same (WB_rw x), (WB_rw x).one⟩, (List.forall_mem_cons.2 ⟨⟨⟨rfl, rfl, rfl, fun a w => alloc_run _ _ zWo a _ rfl w⟩, rfl, rfl, rfl, rfl, (WB_rw y).info (by kernel_rfl), (WB_rw 0).same (WB_rw y), (WB_rw y).one⟩, (List.forall_mem_nil _)⟩)⟩) rfl ?_
  simp only [List.foldl, List.eraseIdx_cons_succ, List.eraseIdx_cons_zero]
  refine upW_late (by rfl) (.pointer (some ⟨N, 0, none⟩)) (fun _ => by kernel_rfl) ?_
  simp only [Act.put, List.setIfInBounds_toArray, List.set]
  refine upW_val (by rfl) (by rfl) (by rfl) (fun K hK => quiet_load_part _ _ rfl N 0 rfl 88 (WR a b c d) (WB a) 4 (WB_rw a) _ HX0.out (WR_0 a b c d) Try.underlying86 rfl (by kernel_rfl) (hK _ ?_))
  simp only [Act.put, List.setIfInBounds_toArray, List.set]
  refine upW_val (by rfl) (by rfl) (by rfl) (fun K hK => quiet_load_ct _ _ rfl B2 rfl 86 (WB c1) 4 (WB_rw c1) _ HB2.out Try.underlying86 rfl (by kernel_rfl) (hK _ ?_))
  simp only [Act.put, List.setIfInBounds_toArray, List.set]
  refine upW_call (by rfl) (by rfl) (.agg (WB x)) _ rfl (by simp) (fun p => ?_) ?_
  · go_big_quiet_op
    exact ⟨_, fun q => Calls.ext_of (HQ3.out q.x), rfl⟩
  simp only [Act.put, List.setIfInBounds_toArray, List.set]
  refine upW_late (by rfl) (.pointer (some ⟨N, 4, none⟩)) (fun _ => by kernel_rfl) ?_
  simp only [Act.put, List.setIfInBounds_toArray, List.set]
  refine upW_val (by rfl) (by rfl) (by rfl) (fun K hK => quiet_load_part _ _ rfl N 4 rfl 88 (WR a b c d) (WB b) 4 (WB_rw b) _ HX0.out (WR_1 a b c d) Try.underlying86 rfl (by kernel_rfl) (hK _ ?_))
  simp only [Act.put, List.setIfInBounds_toArray, List.set]
  refine upW_val (by rfl) (by rfl) (by rfl) (fun K hK => quiet_load_ct _ _ rfl B2 rfl 86 (WB c1) 4 (WB_rw c1) _ HB2.out Try.underlying86 rfl (by kernel_rfl) (hK _ ?_))
  simp only [Act.put, List.setIfInBounds_toArray, List.set]
  refine upW_call (by rfl) (by rfl) (.agg (WB y)) _ rfl (by simp) (fun p => ?_) ?_
  · go_big_quiet_op
    exact ⟨_, fun q => Calls.ext_of (HQ4.out q.x), rfl⟩
  simp only [Act.put, List.setIfInBounds_toArray, List.set]
  refine upW_nil ⟨(List.forall_mem_cons.2 ⟨rfl, (List.forall_mem_cons.2 ⟨rfl, (List.forall_mem_nil _)⟩)⟩), fun M wr3 hM hne hbr3 => ?_⟩
  have hm0 := hM _ (List.mem_cons_self ..)
  have hm1 := hM _ (List.mem_cons_of_mem _ (List.mem_cons_self ..))
  have hn3x01 : M 8 ≠ M 9 := hne _ (List.mem_cons_self ..) _ (List.mem_cons_of_mem _ (List.mem_cons_self ..)) (show (8 : Nat) ≠ 9 by decide)
  clear hM hne
  simp only [List.foldr, pS, Act.put, List.setIfInBounds_toArray, List.set]
  obtain ⟨B3x0, hB3x0⟩ : ∃ m, M 8 = m := ⟨_, rfl⟩
  have HB3x0 := Lib.hid (show CT wr3 B3x0 86 (WB x) by rw [← hB3x0]; exact hm0.2)
  have hlB3x0X0 : N < B3x0 := by rw [← hB3x0]; exact Nat.lt_of_lt_of_le HX0.out.lt hm0.1
  have hlB3x0X1 : (N + 1) < B3x0 := by rw [← hB3x0]; exact Nat.lt_of_lt_of_le HX1.out.lt hm0.1
  have hlB3x0B2 : B2 < B3x0 := by rw [← hB3x0]; exact Nat.lt_of_lt_of_le HB2.out.lt hm0.1
  have hNB3x0 : N ≤ B3x0 := by rw [← hB3x0]; exact Nat.le_trans (by have := HB.out.size; have := HN.out; omega) hm0.1
  obtain ⟨B3x1, hB3x1⟩ : ∃ m, M 9 = m := ⟨_, rfl⟩
  have HB3x1 := Lib.hid (show CT wr3 B3x1 86 (WB y) by rw [← hB3x1]; exact hm1.2)
  have hlB3x1X0 : N < B3x1 := by rw [← hB3x1]; exact Nat.lt_of_lt_of_le HX0.out.lt hm1.1
  have hlB3x1X1 : (N + 1) < B3x1 := by rw [← hB3x1]; exact Nat.lt_of_lt_of_le HX1.out.lt hm1.1
  have hlB3x1B2 : B2 < B3x1 := by rw [← hB3x1]; exact Nat.lt_of_lt_of_le HB2.out.lt hm1.1
  have hNB3x1 : N ≤ B3x1 := by rw [← hB3x1]; exact Nat.le_trans (by have := HB.out.size; have := HN.out; omega) hm1.1
  rw [hB3x0, hB3x1] at hn3x01
  rw [hB3x0, hB3x1]
  clear hm0 hB3x0 hm1 hB3x1
  replace HX0 := Lib.hid (HX0.out.ext hbr3)
  replace HX1 := Lib.hid (HX1.out.ext hbr3)
  replace HB2 := Lib.hid (HB2.out.ext hbr3)
  replace HB := Lib.hid (HB.out.trans (hbr3.mono (show N ≤ _ by have := HB.out.size; have := HN.out; omega)))
  clear hbr3
  go_upto_region 3 with fail
  refine wp_region_seq 2 ?_
  simp only [List.take_succ_cons, List.take_zero, List.drop_succ_cons, List.drop_zero]
  refine upW_val (by rfl) (by rfl) (by rfl) (fun K hK => quiet_load_ct _ _ rfl B3x1 rfl 86 (WB y) 4 (WB_rw y) _ HB3x1.out Try.underlying86 rfl (by kernel_rfl) (hK _ ?_))
  simp only [Act.put, List.setIfInBounds_toArray, List.set]
  refine upW_call (by rfl) (by rfl) (.agg (NB y)) _ rfl (by simp) (fun p => ?_) ?_
  · go_big_quiet_op
    exact ⟨_, fun q => Calls.ext_of (HQ5.out q.x), rfl⟩
  simp only [Act.put, List.setIfInBounds_toArray, List.set]
  refine upW_nil (fun wr4 hbr4 => ?_)
  replace HX0 := Lib.hid (HX0.out.ext hbr4)
  replace HX1 := Lib.hid (HX1.out.ext hbr4)
  replace HB2 := Lib.hid (HB2.out.ext hbr4)
  replace HB3x0 := Lib.hid (HB3x0.out.ext hbr4)
  replace HB3x1 := Lib.hid (HB3x1.out.ext hbr4)
  replace HB := Lib.hid (HB.out.trans (hbr4.mono (show N ≤ _ by have := HB.out.size; have := HN.out; omega)))
  clear hbr4
  refine wpList_new1 rfl 23 rfl (PB 0) zBy rfl _ _ rfl rfl (NB y) 32 (NB_rw y) (PB_rw 0).size (by kernel_rfl) rfl rfl (fun B5 wr5 hB5 hbr5 hCB5 => ?_)
  have HB5 := Lib.hid hCB5
  have hlB5X0 : N < B5 := by rw [← hB5]; exact HX0.out.lt
  have hlB5X1 : (N + 1) < B5 := by rw [← hB5]; exact HX1.out.lt
  have hlB5B2 : B2 < B5 := by rw [← hB5]; exact HB2.out.lt
  have hlB5B3x0 : B3x0 < B5 := by rw [← hB5]; exact HB3x0.out.lt
  have hlB5B3x1 : B3x1 < B5 := by rw [← hB5]; exact HB3x1.out.lt
  have hNB5 : N ≤ B5 := by rw [← hB5]; have := HB.out.size; have := HN.out; omega
  clear hB5 hCB5
  simp only [Act.put, List.setIfInBounds_toArray, List.set]
  replace HX0 := Lib.hid (HX0.out.ext hbr5)
  replace HX1 := Lib.hid (HX1.out.ext hbr5)
  replace HB2 := Lib.hid (HB2.out.ext hbr5)
  replace HB3x0 := Lib.hid (HB3x0.out.ext hbr5)
  replace HB3x1 := Lib.hid (HB3x1.out.ext hbr5)
  replace HB := Lib.hid (HB.out.trans (hbr5.mono (show N ≤ _ by have := HB.out.size; have := HN.out; omega)))
  clear hbr5
  go_upto_region 4 with fail
  refine wp_region_seq 4 ?_
  simp only [List.take_succ_cons, List.take_zero, List.drop_succ_cons, List.drop_zero]
  refine upW_late (by rfl) (.pointer (some ⟨B3x0, 0, none⟩)) (fun _ => by kernel_rfl) ?_
  simp only [Act.put, List.setIfInBounds_toArray, List.set]
  refine upW_val (by rfl) (by rfl) (by rfl) (fun K hK => quiet_load_word _ rfl B3x0 0 rfl 86 (WB x) HB3x0.out (.int .u64 ((x.val % 18446744073709551616 : Nat) : Int)) HX0q.out (hK _ ?_))
  simp only [Act.put, List.setIfInBounds_toArray, List.set]
  refine upW_late (by rfl) (.int .u64 ((x.val % 2 : Nat) : Int)) (fun w => run_and64 _ _ _ _ _ rfl ((x.val % 18446744073709551616 : Nat) : Int) 1 rfl rfl ((x.val % 2 : Nat) : Int) HA1.out w) ?_
  simp only [Act.put, List.setIfInBounds_toArray, List.set]
  refine upW_late (by rfl) (.bool false) (fun w => run_eql64 _ _ _ _ rfl ((x.val % 2 : Nat) : Int) 1 rfl rfl false HO.out w) ?_
  simp only [Act.put, List.setIfInBounds_toArray, List.set]
  refine upW_nil (fun wr6 hbr6 => ?_)
  replace HX0 := Lib.hid (HX0.out.ext hbr6)
  replace HX1 := Lib.hid (HX1.out.ext hbr6)
  replace HB2 := Lib.hid (HB2.out.ext hbr6)
  replace HB3x0 := Lib.hid (HB3x0.out.ext hbr6)
  replace HB3x1 := Lib.hid (HB3x1.out.ext hbr6)
  replace HB5 := Lib.hid (HB5.out.ext hbr6)
  replace HB := Lib.hid (HB.out.trans (hbr6.mono (show N ≤ _ by have := HB.out.size; have := HN.out; omega)))
  clear hbr6
  go_upto_region 6 with fail
  refine wp_region_seq 1 ?_
  simp only [List.take_succ_cons, List.take_zero, List.drop_succ_cons, List.drop_zero]
  refine upW_val (by rfl) (by rfl) (by rfl) (fun K hK => quiet_load_ct _ _ rfl B5 rfl 23 (NB y) 32 (NB_rw y) _ HB5.out Try.underlying23 rfl (by kernel_rfl) (hK _ ?_))
  simp only [Act.put, List.setIfInBounds_toArray, List.set]
  refine upW_nil (fun wr7 hbr7 => ?_)
  replace HX0 := Lib.hid (HX0.out.ext hbr7)
  replace HX1 := Lib.hid (HX1.out.ext hbr7)
  replace HB2 := Lib.hid (HB2.out.ext hbr7)
  replace HB3x0 := Lib.hid (HB3x0.out.ext hbr7)
  replace HB3x1 := Lib.hid (HB3x1.out.ext hbr7)
  replace HB5 := Lib.hid (HB5.out.ext hbr7)
  replace HB := Lib.hid (HB.out.trans (hbr7.mono (show N ≤ _ by have := HB.out.size; have := HN.out; omega)))
  clear hbr7
  refine wpList_store_ct rfl 23 _ _ rfl (N + 1) (NB y) rfl rfl 23 (PB 0) 32 HX1.out (by kernel_rfl) (PB_rw 0) (NB_rw y) rfl (fun wr8 hSwr8 hOwr8 hWwr8 => ?_)
  replace HX1 := Lib.hid hSwr8
  replace HB := Lib.hid (hWwr8 _ _ HB.out (by omega))
  replace HX0 := Lib.hid (HX0.out.other (hOwr8 _ (by omega)))
  replace HB2 := Lib.hid (HB2.out.other (hOwr8 _ (by omega)))
  replace HB3x0 := Lib.hid (HB3x0.out.other (hOwr8 _ (by omega)))
  replace HB3x1 := Lib.hid (HB3x1.out.other (hOwr8 _ (by omega)))
  replace HB5 := Lib.hid (HB5.out.other (hOwr8 _ (by omega)))
  clear hSwr8 hOwr8 hWwr8
  go_wp2
  refine bodyPost_ret (results_ct (by rfl) _ _ (N + 1) 23 (NB y) 32 _ (by rfl) HX1.out (NB_rw y) Try.underlying23 rfl (by kernel_rfl)) rfl ⟨by first | rfl | (simp only [HE1.out]), by rw [HN.out]; exact HB.out⟩
set_option maxRecDepth 100000 in
set_option maxHeartbeats 1000000 in
theorem packed_odd (a b c d : Fp) (ho : decide ((a * finv c).val % 2 = 1) = true) (w : World) :
    Calls Try.prog 78 #[.agg (WR a b c d)] w fun e w' => e = .returned (.agg (PB (encXY (a * finv c) (b * finv c)))) ∧ Below w.heap.size w w' := by
  obtain ⟨x, hx⟩ : ∃ x : Fp, x = a * finv c := ⟨_, rfl⟩
  obtain ⟨y, hy⟩ : ∃ x : Fp, x = b * finv c := ⟨_, rfl⟩
  rw [← hx] at ho
  rw [← hx, ← hy]
  have HXE := Lib.hid hx
  have HYE := Lib.hid hy
  have HX0q := Lib.hid (WB_0 x)
  have HA1 := Lib.hid (show bits .and .u64 ((x.val % 18446744073709551616 : Nat) : Int) 1 = ((x.val % 2 : Nat) : Int) by rw [and1N _ (Nat.mod_lt _ (by decide))]; congr 1; omega)
  have HO := Lib.hid (show (((x.val % 2 : Nat) : Int) == 1) = true by rw [← ho, Bool.eq_iff_iff]; simp; omega)
  have hb : y.val < 57896044618658097711785492504343953926634992332820282019728792003956564819949 := y.isLt
  obtain ⟨v, hv⟩ : ∃ v, y.val / 452312848583266388373324160190187140051835877600158453279131187530910662656 = v := ⟨_, rfl⟩
  have HV := Lib.hid (show (NB y)[31]? = some (.int .u8 (v : Int)) by rw [← hv]; exact PB_31 y.val y.lt256)
  have HV2 := Lib.hid (show v < 256 by omega)
  have HW := Lib.hid (show (NB y).setIfInBounds 31 (.int .u8 ((v % 128 + 128 : Nat) : Int)) = PB (encXY x y) from PB_set31 y.val (encXY x y) (v % 128 + 128) y.lt256 (by omega) (by rw [encXY_odd x y (of_decide_eq_true ho)]; omega))
  clear hb hv
  clear hx hy ho
  obtain ⟨c1, hc1⟩ : ∃ zq : Fp, zq = finv c := ⟨_, rfl⟩
  have HE1 := Lib.hid hc1
  clear hc1
  have HQ2 := Lib.hid (fun w => WB.inv c w)
  rw [← HE1.out] at HQ2
  have HQ3 := Lib.hid (fun w => WB.mul a c1 w)
  rw [show a * c1 = x by rw [HXE.out, HE1.out]] at HQ3
  have HQ4 := Lib.hid (fun w => WB.mul b c1 w)
  rw [show b * c1 = y by rw [HYE.out, HE1.out]] at HQ4
  have HQ5 := Lib.hid (WB.bytes y)
  have hz0 := zWo
  have hz1 := zBy
  go_enter Try.func78, Try.ntmps78
  go_upto_region 1 with fail
  generalize hW1 : World.alloc _ _ = W1
  obtain ⟨N, hN⟩ : ∃ n, w.heap.size = n := ⟨_, rfl⟩
  have HX0 := Lib.hid (show CT W1 N 88 (WR a b c d) by subst hW1; rw [← hN]; exact (allocs2_at w _ _).1)
  have HX1 := Lib.hid (show CT W1 (N + 1) 23 (PB 0) by subst hW1; rw [← hN]; exact (allocs2_at w _ _).2)
  have HB := Lib.hid (show Below N w W1 by subst hW1; rw [← hN]; exact allocs2_below w _ _)
  have HN := Lib.hid hN
  rw [hN]
  clear hW1 hN
  refine wp_region_seq 3 ?_
  simp only [List.take_succ_cons, List.take_zero, List.drop_succ_cons, List.drop_zero]
  refine upW_late (by rfl) (.pointer (some ⟨N, 8, none⟩)) (fun _ => by kernel_rfl) ?_
  simp only [Act.put, List.setIfInBounds_toArray, List.set]
  refine upW_val (by rfl) (by rfl) (by rfl) (fun K hK => quiet_load_part _ _ rfl N 8 rfl 88 (WR a b c d) (WB c) 4 (WB_rw c) _ HX0.out (WR_2 a b c d) Try.underlying86 rfl (by kernel_rfl) (hK _ ?_))
  simp only [Act.put, List.setIfInBounds_toArray, List.set]
  refine upW_call (by rfl) (by rfl) (.agg (WB c1)) _ rfl (by simp) (fun p => ?_) ?_
  · go_big_quiet_op
    exact ⟨_, fun q => Calls.ext_of (HQ2.out q.x), rfl⟩
  simp only [Act.put, List.setIfInBounds_toArray, List.set]
  refine upW_nil (fun wr1 hbr1 => ?_)
  replace HX0 := Lib.hid (HX0.out.ext hbr1)
  replace HX1 := Lib.hid (HX1.out.ext hbr1)
  replace HB := Lib.hid (HB.out.trans (hbr1.mono (show N ≤ _ by have := HB.out.size; have := HN.out; omega)))
  clear hbr1
  refine wpList_new1 rfl 86 rfl (WB 0) zWo rfl _ _ rfl rfl (WB c1) 4 (WB_rw c1) (WB_rw 0).size (by kernel_rfl) rfl rfl (fun B2 wr2 hB2 hbr2 hCB2 => ?_)
  have HB2 := Lib.hid hCB2
  have hlB2X0 : N < B2 := by rw [← hB2]; exact HX0.out.lt
  have hlB2X1 : (N + 1) < B2 := by rw [← hB2]; exact HX1.out.lt
  have hNB2 : N ≤ B2 := by rw [← hB2]; have := HB.out.size; have := HN.out; omega
  clear hB2 hCB2
  simp only [Act.put, List.setIfInBounds_toArray, List.set]
  replace HX0 := Lib.hid (HX0.out.ext hbr2)
  replace HX1 := Lib.hid (HX1.out.ext hbr2)
  replace HB := Lib.hid (HB.out.trans (hbr2.mono (show N ≤ _ by have := HB.out.size; have := HN.out; omega)))
  clear hbr2
  go_upto_region 2 with fail
  refine wp_region_whole [0, 1, 2, 3, 4, 5, 6, 7] [⟨8, _, 86, (WB 0), 4, 10, _, 86, 13, (WB x)⟩, ⟨9, _, 86, (WB 0), 5, 11, _, 86, 17, (WB y)⟩] [11, 10, 9, 8] (by kernel_rfl) (by kernel_rfl) (List.forall_mem_cons.2 ⟨⟨⟨rfl, rfl, rfl, fun a w => alloc_run _ _ zWo a _ rfl w⟩, rfl, rfl, rfl, rfl, (WB_rw x).info (by kernel_rfl), (WB_rw 0).same (WB_rw x), (WB_rw x).one⟩, (List.forall_mem_cons.2 ⟨⟨⟨rfl, rfl, rfl, fun a w => alloc_run _ _ zWo a _ rfl w⟩, rfl, rfl, rfl, rfl, (WB_rw y).info (by kernel_rfl), (WB_rw 0).same (WB_rw y), (WB_rw y).one⟩, (List.forall_mem_nil _)⟩)⟩) rfl ?_
  simp only [List.foldl, List.eraseIdx_cons_succ, List.eraseIdx_cons_zero]
  refine upW_late (by rfl) (.pointer (some ⟨N, 0, none⟩)) (fun _ => by kernel_rfl) ?_
  simp only [Act.put, List.setIfInBounds_toArray, List.set]
  refine upW_val (by rfl) (by rfl) (by rfl) (fun K hK => quiet_load_part _ _ rfl N 0 rfl 88 (WR a b c d) (WB a) 4 (WB_rw a) _ HX0.out (WR_0 a b c d) Try.underlying86 rfl (by kernel_rfl) (hK _ ?_))
  simp only [Act.put, List.setIfInBounds_toArray, List.set]
  refine upW_val (by rfl) (by rfl) (by rfl) (fun K hK => quiet_load_ct _ _ rfl B2 rfl 86 (WB c1) 4 (WB_rw c1) _ HB2.out Try.underlying86 rfl (by kernel_rfl) (hK _ ?_))
  simp only [Act.put, List.setIfInBounds_toArray, List.set]
  refine upW_call (by rfl) (by rfl) (.agg (WB x)) _ rfl (by simp) (fun p => ?_) ?_
  · go_big_quiet_op
    exact ⟨_, fun q => Calls.ext_of (HQ3.out q.x), rfl⟩
  simp only [Act.put, List.setIfInBounds_toArray, List.set]
  refine upW_late (by rfl) (.pointer (some ⟨N, 4, none⟩)) (fun _ => by kernel_rfl) ?_
  simp only [Act.put, List.setIfInBounds_toArray, List.set]
  refine upW_val (by rfl) (by rfl) (by rfl) (fun K hK => quiet_load_part _ _ rfl N 4 rfl 88 (WR a b c d) (WB b) 4 (WB_rw b) _ HX0.out (WR_1 a b c d) Try.underlying86 rfl (by kernel_rfl) (hK _ ?_))
  simp only [Act.put, List.setIfInBounds_toArray, List.set]
  refine upW_val (by rfl) (by rfl) (by rfl) (fun K hK => quiet_load_ct _ _ rfl B2 rfl 86 (WB c1) 4 (WB_rw c1) _ HB2.out Try.underlying86 rfl (by kernel_rfl) (hK _ ?_))
  simp only [Act.put, List.setIfInBounds_toArray, List.set]
  refine upW_call (by rfl) (by rfl) (.agg (WB y)) _ rfl (by simp) (fun p => ?_) ?_
  · go_big_quiet_op
    exact ⟨_, fun q => Calls.ext_of (HQ4.out q.x), rfl⟩
  simp only [Act.put, List.setIfInBounds_toArray, List.set]
  refine upW_nil ⟨(List.forall_mem_cons.2 ⟨rfl, (List.forall_mem_cons.2 ⟨rfl, (List.forall_mem_nil _)⟩)⟩), fun M wr3 hM hne hbr3 => ?_⟩
  have hm0 := hM _ (List.mem_cons_self ..)
  have hm1 := hM _ (List.mem_cons_of_mem _ (List.mem_cons_self ..))
  have hn3x01 : M 8 ≠ M 9 := hne _ (List.mem_cons_self ..) _ (List.mem_cons_of_mem _ (List.mem_cons_self ..)) (show (8 : Nat) ≠ 9 by decide)
  clear hM hne
  simp only [List.foldr, pS, Act.put, List.setIfInBounds_toArray, List.set]
  obtain ⟨B3x0, hB3x0⟩ : ∃ m, M 8 = m := ⟨_, rfl⟩
  have HB3x0 := Lib.hid (show CT wr3 B3x0 86 (WB x) by rw [← hB3x0]; exact hm0.2)
  have hlB3x0X0 : N < B3x0 := by rw [← hB3x0]; exact Nat.lt_of_lt_of_le HX0.out.lt hm0.1
  have hlB3x0X1 : (N + 1) < B3x0 := by rw [← hB3x0]; exact Nat.lt_of_lt_of_le HX1.out.lt hm0.1
  have hlB3x0B2 : B2 < B3x0 := by rw [← hB3x0]; exact Nat.lt_of_lt_of_le HB2.out.lt hm0.1
  have hNB3x0 : N ≤ B3x0 := by rw [← hB3x0]; exact Nat.le_trans (by have := HB.out.size; have := HN.out; omega) hm0.1
  obtain ⟨B3x1, hB3x1⟩ : ∃ m, M 9 = m := ⟨_, rfl⟩
  have HB3x1 := Lib.hid (show CT wr3 B3x1 86 (WB y) by rw [← hB3x1]; exact hm1.2)
  have hlB3x1X0 : N < B3x1 := by rw [← hB3x1]; exact Nat.lt_of_lt_of_le HX0.out.lt hm1.1
  have hlB3x1X1 : (N + 1) < B3x1 := by rw [← hB3x1]; exact Nat.lt_of_lt_of_le HX1.out.lt hm1.1
  have hlB3x1B2 : B2 < B3x1 := by rw [← hB3x1]; exact Nat.lt_of_lt_of_le HB2.out.lt hm1.1
  have hNB3x1 : N ≤ B3x1 := by rw [← hB3x1]; exact Nat.le_trans (by have := HB.out.size; have := HN.out; omega) hm1.1
  rw [hB3x0, hB3x1] at hn3x01
  rw [hB3x0, hB3x1]
  clear hm0 hB3x0 hm1 hB3x1
  replace HX0 := Lib.hid (HX0.out.ext hbr3)
  replace HX1 := Lib.hid (HX1.out.ext hbr3)
  replace HB2 := Lib.hid (HB2.out.ext hbr3)
  replace HB := Lib.hid (HB.out.trans (hbr3.mono (show N ≤ _ by have := HB.out.size; have := HN.out; omega)))
  clear hbr3
  go_upto_region 3 with fail
  refine wp_region_seq 2 ?_
  simp only [List.take_succ_cons, List.take_zero, List.drop_succ_cons, List.drop_zero]
  refine upW_val (by rfl) (by rfl) (by rfl) (fun K hK => quiet_load_ct _ _ rfl B3x1 rfl 86 (WB y) 4 (WB_rw y) _ HB3x1.out Try.underlying86 rfl (by kernel_rfl) (hK _ ?_))
  simp only [Act.put, List.setIfInBounds_toArray, List.set]
  refine upW_call (by rfl) (by rfl) (.agg (NB y)) _ rfl (by simp) (fun p => ?_) ?_
  · go_big_quiet_op
    exact ⟨_, fun q => Calls.ext_of (HQ5.out q.x), rfl⟩
  simp only [Act.put, List.setIfInBounds_toArray, List.set]
  refine upW_nil (fun wr4 hbr4 => ?_)
  replace HX0 := Lib.hid (HX0.out.ext hbr4)
  replace HX1 := Lib.hid (HX1.out.ext hbr4)
  replace HB2 := Lib.hid (HB2.out.ext hbr4)
  replace HB3x0 := Lib.hid (HB3x0.out.ext hbr4)
  replace HB3x1 := Lib.hid (HB3x1.out.ext hbr4)
  replace HB := Lib.hid (HB.out.trans (hbr4.mono (show N ≤ _ by have := HB.out.size; have := HN.out; omega)))
  clear hbr4
  refine wpList_new1 rfl 23 rfl (PB 0) zBy rfl _ _ rfl rfl (NB y) 32 (NB_rw y) (PB_rw 0).size (by kernel_rfl) rfl rfl (fun B5 wr5 hB5 hbr5 hCB5 => ?_)
  have HB5 := Lib.hid hCB5
  have hlB5X0 : N < B5 := by rw [← hB5]; exact HX0.out.lt
  have hlB5X1 : (N + 1) < B5 := by rw [← hB5]; exact HX1.out.lt
  have hlB5B2 : B2 < B5 := by rw [← hB5]; exact HB2.out.lt
  have hlB5B3x0 : B3x0 < B5 := by rw [← hB5]; exact HB3x0.out.lt
  have hlB5B3x1 : B3x1 < B5 := by rw [← hB5]; exact HB3x1.out.lt
  have hNB5 : N ≤ B5 := by rw [← hB5]; have := HB.out.size; have := HN.out; omega
  clear hB5 hCB5
  simp only [Act.put, List.setIfInBounds_toArray, List.set]
  replace HX0 := Lib.hid (HX0.out.ext hbr5)
  replace HX1 := Lib.hid (HX1.out.ext hbr5)
  replace HB2 := Lib.hid (HB2.out.ext hbr5)
  replace HB3x0 := Lib.hid (HB3x0.out.ext hbr5)
  replace HB3x1 := Lib.hid (HB3x1.out.ext hbr5)
  replace HB := Lib.hid (HB.out.trans (hbr5.mono (show N ≤ _ by have := HB.out.size; have := HN.out; omega)))
  clear hbr5
  go_upto_region 4 with fail
  refine wp_region_seq 4 ?_
  simp only [List.take_succ_cons, List.take_zero, List.drop_succ_cons, List.drop_zero]
  refine upW_late (by rfl) (.pointer (some ⟨B3x0, 0, none⟩)) (fun _ => by kernel_rfl) ?_
  simp only [Act.put, List.setIfInBounds_toArray, List.set]
  refine upW_val (by rfl) (by rfl) (by rfl) (fun K hK => quiet_load_word _ rfl B3x0 0 rfl 86 (WB x) HB3x0.out (.int .u64 ((x.val % 18446744073709551616 : Nat) : Int)) HX0q.out (hK _ ?_))
  simp only [Act.put, List.setIfInBounds_toArray, List.set]
  refine upW_late (by rfl) (.int .u64 ((x.val % 2 : Nat) : Int)) (fun w => run_and64 _ _ _ _ _ rfl ((x.val % 18446744073709551616 : Nat) : Int) 1 rfl rfl ((x.val % 2 : Nat) : Int) HA1.out w) ?_
  simp only [Act.put, List.setIfInBounds_toArray, List.set]
  refine upW_late (by rfl) (.bool true) (fun w => run_eql64 _ _ _ _ rfl ((x.val % 2 : Nat) : Int) 1 rfl rfl true HO.out w) ?_
  simp only [Act.put, List.setIfInBounds_toArray, List.set]
  refine upW_nil (fun wr6 hbr6 => ?_)
  replace HX0 := Lib.hid (HX0.out.ext hbr6)
  replace HX1 := Lib.hid (HX1.out.ext hbr6)
  replace HB2 := Lib.hid (HB2.out.ext hbr6)
  replace HB3x0 := Lib.hid (HB3x0.out.ext hbr6)
  replace HB3x1 := Lib.hid (HB3x1.out.ext hbr6)
  replace HB5 := Lib.hid (HB5.out.ext hbr6)
  replace HB := Lib.hid (HB.out.trans (hbr6.mono (show N ≤ _ by have := HB.out.size; have := HN.out; omega)))
  clear hbr6
  go_upto_region 5 with fail
  refine wp_region_seq 4 ?_
  simp only [List.take_succ_cons, List.take_zero, List.drop_succ_cons, List.drop_zero]
  refine upW_late (by rfl) (.pointer (some ⟨B5, 31, none⟩)) (fun _ => by kernel_rfl) ?_
  simp only [Act.put, List.setIfInBounds_toArray, List.set]
  refine upW_val (by rfl) (by rfl) (by rfl) (fun K hK => quiet_load_byte _ rfl B5 31 rfl 23 (NB y) HB5.out (.int .u8 (v : Int)) HV.out (hK _ ?_))
  simp only [Act.put, List.setIfInBounds_toArray, List.set]
  refine upW_late (by rfl) (.int .u8 ((v % 128 + 128 : Nat) : Int)) (fun w => run_or8 _ _ _ _ _ rfl (v : Int) 128 rfl rfl ((v % 128 + 128 : Nat) : Int) (or128 v HV2.out) w) ?_
  simp only [Act.put, List.setIfInBounds_toArray, List.set]
  refine upW_late (by rfl) (.pointer (some ⟨B5, 31, none⟩)) (fun _ => by kernel_rfl) ?_
  simp only [Act.put, List.setIfInBounds_toArray, List.set]
  refine upW_nil (fun wr7 hbr7 => ?_)
  replace HX0 := Lib.hid (HX0.out.ext hbr7)
  replace HX1 := Lib.hid (HX1.out.ext hbr7)
  replace HB2 := Lib.hid (HB2.out.ext hbr7)
  replace HB3x0 := Lib.hid (HB3x0.out.ext hbr7)
  replace HB3x1 := Lib.hid (HB3x1.out.ext hbr7)
  replace HB5 := Lib.hid (HB5.out.ext hbr7)
  replace HB := Lib.hid (HB.out.trans (hbr7.mono (show N ≤ _ by have := HB.out.size; have := HN.out; omega)))
  clear hbr7
  refine wpList_store_byte rfl _ _ rfl B5 31 rfl ((v % 128 + 128 : Nat) : Int) rfl 23 (NB y) (PB (encXY x y)) HB5.out (by rw [(NB_rw y).size]; decide) HW.out rfl (fun wr8 hSwr8 hOwr8 hWwr8 => ?_)
  replace HB5 := Lib.hid hSwr8
  replace HB := Lib.hid (hWwr8 _ _ HB.out (by omega))
  replace HX0 := Lib.hid (HX0.out.other (hOwr8 _ (by omega)))
  replace HX1 := Lib.hid (HX1.out.other (hOwr8 _ (by omega)))
  replace HB2 := Lib.hid (HB2.out.other (hOwr8 _ (by omega)))
  replace HB3x0 := Lib.hid (HB3x0.out.other (hOwr8 _ (by omega)))
  replace HB3x1 := Lib.hid (HB3x1.out.other (hOwr8 _ (by omega)))
  clear hSwr8 hOwr8 hWwr8
  go_upto_region 6 with fail
  refine wp_region_seq 1 ?_
  simp only [List.take_succ_cons, List.take_zero, List.drop_succ_cons, List.drop_zero]
  refine upW_val (by rfl) (by rfl) (by rfl) (fun K hK => quiet_load_ct _ _ rfl B5 rfl 23 (PB (encXY x y)) 32 (PB_rw (encXY x y)) _ HB5.out Try.underlying23 rfl (by kernel_rfl) (hK _ ?_))
  simp only [Act.put, List.setIfInBounds_toArray, List.set]
  refine upW_nil (fun wr9 hbr9 => ?_)
  replace HX0 := Lib.hid (HX0.out.ext hbr9)
  replace HX1 := Lib.hid (HX1.out.ext hbr9)
  replace HB2 := Lib.hid (HB2.out.ext hbr9)
  replace HB3x0 := Lib.hid (HB3x0.out.ext hbr9)
  replace HB3x1 := Lib.hid (HB3x1.out.ext hbr9)
  replace HB5 := Lib.hid (HB5.out.ext hbr9)
  replace HB := Lib.hid (HB.out.trans (hbr9.mono (show N ≤ _ by have := HB.out.size; have := HN.out; omega)))
  clear hbr9
  refine wpList_store_ct rfl 23 _ _ rfl (N + 1) (PB (encXY x y)) rfl rfl 23 (PB 0) 32 HX1.out (by kernel_rfl) (PB_rw 0) (PB_rw (encXY x y)) rfl (fun wr10 hSwr10 hOwr10 hWwr10 => ?_)
  replace HX1 := Lib.hid hSwr10
  replace HB := Lib.hid (hWwr10 _ _ HB.out (by omega))
  replace HX0 := Lib.hid (HX0.out.other (hOwr10 _ (by omega)))
  replace HB2 := Lib.hid (HB2.out.other (hOwr10 _ (by omega)))
  replace HB3x0 := Lib.hid (HB3x0.out.other (hOwr10 _ (by omega)))
  replace HB3x1 := Lib.hid (HB3x1.out.other (hOwr10 _ (by omega)))
  replace HB5 := Lib.hid (HB5.out.other (hOwr10 _ (by omega)))
  clear hSwr10 hOwr10 hWwr10
  go_wp2
  refine bodyPost_ret (results_ct (by rfl) _ _ (N + 1) 23 (PB (encXY x y)) 32 _ (by rfl) HX1.out (PB_rw (encXY x y)) Try.underlying23 rfl (by kernel_rfl)) rfl ⟨by first | rfl | (simp only [HE1.out]), by rw [HN.out]; exact HB.out⟩
theorem packedP_any (a b c d : Fp) (w : World) : Calls Try.prog 78 #[.agg (WR a b c d)] w fun e w' => e = .returned (.agg (PB (encXY (a * finv c) (b * finv c)))) ∧ Below w.heap.size w w' := by
  cases h : decide ((a * finv c).val % 2 = 1) with
  | false => exact packed_even a b c d h w
  | true => exact packed_odd a b c d h w
end Go.Proofs.Ytfmclkmmkceldaa
