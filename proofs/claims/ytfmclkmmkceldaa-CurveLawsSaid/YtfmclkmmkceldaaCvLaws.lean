/-
  CurveLaws: three points added in whatever order and bracket are one point; Zero adds nothing; a point and its Neg are Zero.
  Conditions: none.
-/
import Derived.Test.YtfmclkmmkceldaaCvA
import Derived.Test.YtfmclkmmkceldaaFdO
import Derived.Test.YtfmclkmmkceldaaCvS
namespace Go.Proofs.Ytfmclkmmkceldaa
open Go.RowKit

set_option linter.unusedSimpArgs false
set_option linter.unusedVariables false
open Go.ChangeShapes Go.WideShapes Go.ChangeAt
theorem lw_x (p q : Pt) : padd (padd p q) (pneg q) = p := by rw [padd_assoc, padd_neg, padd_zero]
set_option maxRecDepth 100000 in
set_option maxHeartbeats 1000000 in
theorem curveLaws_nat (n : Nat) (hn : n < 115792089237316195423570985008687907853269984665640564039457584007913129639936) (m : Nat) (hm : m < 115792089237316195423570985008687907853269984665640564039457584007913129639936) (turn : Int) (w : World) :
    Calls Try.prog 6 #[.agg (PB n), .agg (PB m), .int .i64 turn] w fun e w' => e = .returned (.bool true) ∧ Below w.heap.size w w' := by
  have HLn := Lib.hid hn
  clear hn
  have HLm := Lib.hid hm
  clear hm
  obtain ⟨q1, hq1⟩ : ∃ q : Pt, q = sP n turn := ⟨_, rfl⟩
  have HE1 := Lib.hid hq1
  clear hq1
  have HQ2 := Lib.hid (fun w => some_any n HLn.out turn w)
  rw [← HE1.out] at HQ2
  obtain ⟨q3, hq3⟩ : ∃ q : Pt, q = sP m (quo8 turn) := ⟨_, rfl⟩
  have HE3 := Lib.hid hq3
  clear hq3
  have HQ4 := Lib.hid (fun w => some_any m HLm.out (quo8 turn) w)
  rw [← HE3.out] at HQ4
  obtain ⟨q5, hq5⟩ : ∃ q : Pt, q = pneg q3 := ⟨_, rfl⟩
  have HE5 := Lib.hid hq5
  clear hq5
  have HQ6 := Lib.hid (fun w => Neg_ok q3 w)
  rw [← HE5.out] at HQ6
  obtain ⟨q7, hq7⟩ : ∃ q : Pt, q = padd q1 q3 := ⟨_, rfl⟩
  have HE7 := Lib.hid hq7
  clear hq7
  have HQ8 := Lib.hid (fun w => Add_ok q1 q3 w)
  rw [← HE7.out] at HQ8
  obtain ⟨q9, hq9⟩ : ∃ q : Pt, q = padd q3 q1 := ⟨_, rfl⟩
  have HE9 := Lib.hid hq9
  clear hq9
  have HQ10 := Lib.hid (fun w => Add_ok q3 q1 w)
  rw [← HE9.out] at HQ10
  obtain ⟨q11, hq11⟩ : ∃ q : Pt, q = padd q7 q5 := ⟨_, rfl⟩
  have HE11 := Lib.hid hq11
  clear hq11
  have HQ12 := Lib.hid (fun w => Add_ok q7 q5 w)
  rw [← HE11.out] at HQ12
  obtain ⟨q13, hq13⟩ : ∃ q : Pt, q = padd q3 q5 := ⟨_, rfl⟩
  have HE13 := Lib.hid hq13
  clear hq13
  have HQ14 := Lib.hid (fun w => Add_ok q3 q5 w)
  rw [← HE13.out] at HQ14
  obtain ⟨q15, hq15⟩ : ∃ q : Pt, q = padd q1 pzero := ⟨_, rfl⟩
  have HE15 := Lib.hid hq15
  clear hq15
  have HQ16 := Lib.hid (fun w => Add_ok q1 pzero w)
  rw [← HE15.out] at HQ16
  obtain ⟨q17, hq17⟩ : ∃ q : Pt, q = padd q1 q1 := ⟨_, rfl⟩
  have HE17 := Lib.hid hq17
  clear hq17
  have HQ18 := Lib.hid (fun w => Add_ok q1 q1 w)
  rw [← HE17.out] at HQ18
  obtain ⟨q19, hq19⟩ : ∃ q : Pt, q = padd q17 q3 := ⟨_, rfl⟩
  have HE19 := Lib.hid hq19
  clear hq19
  have HQ20 := Lib.hid (fun w => Add_ok q17 q3 w)
  rw [← HE19.out] at HQ20
  obtain ⟨q21, hq21⟩ : ∃ q : Pt, q = padd q1 q7 := ⟨_, rfl⟩
  have HE21 := Lib.hid hq21
  clear hq21
  have HQ22 := Lib.hid (fun w => Add_ok q1 q7 w)
  rw [← HE21.out] at HQ22
  have HQ23 := Lib.hid (fun w => Good_ok q7 w)
  go_enter Try.func6, Try.ntmps6
  go_upto_region 1 with fail
  generalize hW1 : World.alloc _ _ = W1
  obtain ⟨N, hN⟩ : ∃ n, w.heap.size = n := ⟨_, rfl⟩
  have HX0 := Lib.hid (show CT W1 N 23 (PB n) by subst hW1; rw [← hN]; exact (allocs2_at w _ _).1)
  have HX1 := Lib.hid (show CT W1 (N + 1) 23 (PB m) by subst hW1; rw [← hN]; exact (allocs2_at w _ _).2)
  have HB := Lib.hid (show Below N w W1 by subst hW1; rw [← hN]; exact allocs2_below w _ _)
  have HN := Lib.hid hN
  rw [hN]
  clear hW1 hN
  refine wp_region_seq 1 ?_
  simp only [List.take_succ_cons, List.take_zero, List.drop_succ_cons, List.drop_zero]
  refine upW_call (by rfl) (by rfl) (.bool true) _ rfl (by simp) (fun p => ?_) ?_
  · go_big_quiet_op
    exact ⟨_, fun q => Calls.ext_of (awake9_any q.x), rfl⟩
  simp only [Act.put, List.setIfInBounds_toArray, List.set]
  refine upW_nil (fun wr1 hbr1 => ?_)
  replace HX0 := Lib.hid (HX0.out.ext hbr1)
  replace HX1 := Lib.hid (HX1.out.ext hbr1)
  replace HB := Lib.hid (HB.out.trans (hbr1.mono (show N ≤ _ by have := HB.out.size; have := HN.out; omega)))
  clear hbr1
  go_upto_region 3 with fail
  refine wp_region_seq 6 ?_
  simp only [List.take_succ_cons, List.take_zero, List.drop_succ_cons, List.drop_zero]
  refine upW_val (by rfl) (by rfl) (by rfl) (fun K hK => quiet_load_ct _ _ rfl N rfl 23 (PB n) 32 (PB_rw n) _ HX0.out Try.underlying23 rfl (by kernel_rfl) (hK _ ?_))
  simp only [Act.put, List.setIfInBounds_toArray, List.set]
  refine upW_val (by rfl) (by rfl) (by rfl) ?_
  intro K hK
  go_big_quiet_op
  refine hK _ ?_
  refine upW_call (by rfl) (by rfl) (.tuple #[.agg (PB (pN q1)), .bool true]) _ rfl (by simp) (fun p => ?_) ?_
  · go_big_quiet_op
    exact ⟨_, fun q => Calls.ext_of (HQ2.out q.x), rfl⟩
  simp only [Act.put, List.setIfInBounds_toArray, List.set]
  refine upW_val (by rfl) (by rfl) (by rfl) ?_
  intro K hK
  go_big_quiet_op
  refine hK _ ?_
  refine upW_late (by rfl) (.agg (PB (pN q1))) (fun _ => rfl) ?_
  simp only [Act.put, List.setIfInBounds_toArray, List.set]
  refine upW_late (by rfl) (.bool true) (fun _ => rfl) ?_
  simp only [Act.put, List.setIfInBounds_toArray, List.set]
  refine upW_nil (fun wr2 hbr2 => ?_)
  replace HX0 := Lib.hid (HX0.out.ext hbr2)
  replace HX1 := Lib.hid (HX1.out.ext hbr2)
  replace HB := Lib.hid (HB.out.trans (hbr2.mono (show N ≤ _ by have := HB.out.size; have := HN.out; omega)))
  clear hbr2
  refine wpList_new1 rfl 24 rfl (PB 0) zPt rfl _ _ rfl rfl (PB (pN q1)) 32 (PB_rw (pN q1)) (PB_rw 0).size (by kernel_rfl) rfl rfl (fun B3 wr3 hB3 hbr3 hCB3 => ?_)
  have HB3 := Lib.hid hCB3
  have hlB3X0 : N < B3 := by rw [← hB3]; exact HX0.out.lt
  have hlB3X1 : (N + 1) < B3 := by rw [← hB3]; exact HX1.out.lt
  have hNB3 : N ≤ B3 := by rw [← hB3]; have := HB.out.size; have := HN.out; omega
  clear hB3 hCB3
  simp only [Act.put, List.setIfInBounds_toArray, List.set]
  replace HX0 := Lib.hid (HX0.out.ext hbr3)
  replace HX1 := Lib.hid (HX1.out.ext hbr3)
  replace HB := Lib.hid (HB.out.trans (hbr3.mono (show N ≤ _ by have := HB.out.size; have := HN.out; omega)))
  clear hbr3
  go_upto_region 4 with fail
  refine wp_region_seq 7 ?_
  simp only [List.take_succ_cons, List.take_zero, List.drop_succ_cons, List.drop_zero]
  refine upW_val (by rfl) (by rfl) (by rfl) (fun K hK => quiet_load_ct _ _ rfl (N + 1) rfl 23 (PB m) 32 (PB_rw m) _ HX1.out Try.underlying23 rfl (by kernel_rfl) (hK _ ?_))
  simp only [Act.put, List.setIfInBounds_toArray, List.set]
  refine upW_val (by rfl) (by rfl) (by rfl) ?_
  intro K hK
  go_big_quiet_op
  refine hK _ ?_
  refine upW_late (by rfl) (.int .i64 (quo8 turn)) (fun w => run_quo8 _ _ _ _ rfl turn rfl rfl w) ?_
  simp only [Act.put, List.setIfInBounds_toArray, List.set]
  refine upW_call (by rfl) (by rfl) (.tuple #[.agg (PB (pN q3)), .bool true]) _ rfl (by simp) (fun p => ?_) ?_
  · go_big_quiet_op
    exact ⟨_, fun q => Calls.ext_of (HQ4.out q.x), rfl⟩
  simp only [Act.put, List.setIfInBounds_toArray, List.set]
  refine upW_val (by rfl) (by rfl) (by rfl) ?_
  intro K hK
  go_big_quiet_op
  refine hK _ ?_
  refine upW_late (by rfl) (.agg (PB (pN q3))) (fun _ => rfl) ?_
  simp only [Act.put, List.setIfInBounds_toArray, List.set]
  refine upW_late (by rfl) (.bool true) (fun _ => rfl) ?_
  simp only [Act.put, List.setIfInBounds_toArray, List.set]
  refine upW_nil (fun wr4 hbr4 => ?_)
  replace HX0 := Lib.hid (HX0.out.ext hbr4)
  replace HX1 := Lib.hid (HX1.out.ext hbr4)
  replace HB3 := Lib.hid (HB3.out.ext hbr4)
  replace HB := Lib.hid (HB.out.trans (hbr4.mono (show N ≤ _ by have := HB.out.size; have := HN.out; omega)))
  clear hbr4
  refine wpList_new1 rfl 24 rfl (PB 0) zPt rfl _ _ rfl rfl (PB (pN q3)) 32 (PB_rw (pN q3)) (PB_rw 0).size (by kernel_rfl) rfl rfl (fun B5 wr5 hB5 hbr5 hCB5 => ?_)
  have HB5 := Lib.hid hCB5
  have hlB5X0 : N < B5 := by rw [← hB5]; exact HX0.out.lt
  have hlB5X1 : (N + 1) < B5 := by rw [← hB5]; exact HX1.out.lt
  have hlB5B3 : B3 < B5 := by rw [← hB5]; exact HB3.out.lt
  have hNB5 : N ≤ B5 := by rw [← hB5]; have := HB.out.size; have := HN.out; omega
  clear hB5 hCB5
  simp only [Act.put, List.setIfInBounds_toArray, List.set]
  replace HX0 := Lib.hid (HX0.out.ext hbr5)
  replace HX1 := Lib.hid (HX1.out.ext hbr5)
  replace HB3 := Lib.hid (HB3.out.ext hbr5)
  replace HB := Lib.hid (HB.out.trans (hbr5.mono (show N ≤ _ by have := HB.out.size; have := HN.out; omega)))
  clear hbr5
  go_upto_region 5 with fail
  refine wp_region_seq 5 ?_
  simp only [List.take_succ_cons, List.take_zero, List.drop_succ_cons, List.drop_zero]
  refine upW_val (by rfl) (by rfl) (by rfl) (fun K hK => quiet_load_ct _ _ rfl B5 rfl 24 (PB (pN q3)) 32 (PB_rw (pN q3)) _ HB5.out Try.underlying24 rfl (by kernel_rfl) (hK _ ?_))
  simp only [Act.put, List.setIfInBounds_toArray, List.set]
  refine upW_call (by rfl) (by rfl) (.tuple #[.agg (PB (pN q5)), .bool true]) _ rfl (by simp) (fun p => ?_) ?_
  · go_big_quiet_op
    exact ⟨_, fun q => Calls.ext_of (HQ6.out q.x), rfl⟩
  simp only [Act.put, List.setIfInBounds_toArray, List.set]
  refine upW_val (by rfl) (by rfl) (by rfl) ?_
  intro K hK
  go_big_quiet_op
  refine hK _ ?_
  refine upW_late (by rfl) (.agg (PB (pN q5))) (fun _ => rfl) ?_
  simp only [Act.put, List.setIfInBounds_toArray, List.set]
  refine upW_late (by rfl) (.bool true) (fun _ => rfl) ?_
  simp only [Act.put, List.setIfInBounds_toArray, List.set]
  refine upW_nil (fun wr6 hbr6 => ?_)
  replace HX0 := Lib.hid (HX0.out.ext hbr6)
  replace HX1 := Lib.hid (HX1.out.ext hbr6)
  replace HB3 := Lib.hid (HB3.out.ext hbr6)
  replace HB5 := Lib.hid (HB5.out.ext hbr6)
  replace HB := Lib.hid (HB.out.trans (hbr6.mono (show N ≤ _ by have := HB.out.size; have := HN.out; omega)))
  clear hbr6
  refine wpList_new1 rfl 24 rfl (PB 0) zPt rfl _ _ rfl rfl (PB (pN q5)) 32 (PB_rw (pN q5)) (PB_rw 0).size (by kernel_rfl) rfl rfl (fun B7 wr7 hB7 hbr7 hCB7 => ?_)
  have HB7 := Lib.hid hCB7
  have hlB7X0 : N < B7 := by rw [← hB7]; exact HX0.out.lt
  have hlB7X1 : (N + 1) < B7 := by rw [← hB7]; exact HX1.out.lt
  have hlB7B3 : B3 < B7 := by rw [← hB7]; exact HB3.out.lt
  have hlB7B5 : B5 < B7 := by rw [← hB7]; exact HB5.out.lt
  have hNB7 : N ≤ B7 := by rw [← hB7]; have := HB.out.size; have := HN.out; omega
  clear hB7 hCB7
  simp only [Act.put, List.setIfInBounds_toArray, List.set]
  replace HX0 := Lib.hid (HX0.out.ext hbr7)
  replace HX1 := Lib.hid (HX1.out.ext hbr7)
  replace HB3 := Lib.hid (HB3.out.ext hbr7)
  replace HB5 := Lib.hid (HB5.out.ext hbr7)
  replace HB := Lib.hid (HB.out.trans (hbr7.mono (show N ≤ _ by have := HB.out.size; have := HN.out; omega)))
  clear hbr7
  go_upto_region 6 with fail
  refine wp_region_seq 6 ?_
  simp only [List.take_succ_cons, List.take_zero, List.drop_succ_cons, List.drop_zero]
  refine upW_val (by rfl) (by rfl) (by rfl) (fun K hK => quiet_load_ct _ _ rfl B3 rfl 24 (PB (pN q1)) 32 (PB_rw (pN q1)) _ HB3.out Try.underlying24 rfl (by kernel_rfl) (hK _ ?_))
  simp only [Act.put, List.setIfInBounds_toArray, List.set]
  refine upW_val (by rfl) (by rfl) (by rfl) (fun K hK => quiet_load_ct _ _ rfl B5 rfl 24 (PB (pN q3)) 32 (PB_rw (pN q3)) _ HB5.out Try.underlying24 rfl (by kernel_rfl) (hK _ ?_))
  simp only [Act.put, List.setIfInBounds_toArray, List.set]
  refine upW_call (by rfl) (by rfl) (.tuple #[.agg (PB (pN q7)), .bool true]) _ rfl (by simp) (fun p => ?_) ?_
  · go_big_quiet_op
    exact ⟨_, fun q => Calls.ext_of (HQ8.out q.x), rfl⟩
  simp only [Act.put, List.setIfInBounds_toArray, List.set]
  refine upW_val (by rfl) (by rfl) (by rfl) ?_
  intro K hK
  go_big_quiet_op
  refine hK _ ?_
  refine upW_late (by rfl) (.agg (PB (pN q7))) (fun _ => rfl) ?_
  simp only [Act.put, List.setIfInBounds_toArray, List.set]
  refine upW_late (by rfl) (.bool true) (fun _ => rfl) ?_
  simp only [Act.put, List.setIfInBounds_toArray, List.set]
  refine upW_nil (fun wr8 hbr8 => ?_)
  replace HX0 := Lib.hid (HX0.out.ext hbr8)
  replace HX1 := Lib.hid (HX1.out.ext hbr8)
  replace HB3 := Lib.hid (HB3.out.ext hbr8)
  replace HB5 := Lib.hid (HB5.out.ext hbr8)
  replace HB7 := Lib.hid (HB7.out.ext hbr8)
  replace HB := Lib.hid (HB.out.trans (hbr8.mono (show N ≤ _ by have := HB.out.size; have := HN.out; omega)))
  clear hbr8
  refine wpList_new1 rfl 24 rfl (PB 0) zPt rfl _ _ rfl rfl (PB (pN q7)) 32 (PB_rw (pN q7)) (PB_rw 0).size (by kernel_rfl) rfl rfl (fun B9 wr9 hB9 hbr9 hCB9 => ?_)
  have HB9 := Lib.hid hCB9
  have hlB9X0 : N < B9 := by rw [← hB9]; exact HX0.out.lt
  have hlB9X1 : (N + 1) < B9 := by rw [← hB9]; exact HX1.out.lt
  have hlB9B3 : B3 < B9 := by rw [← hB9]; exact HB3.out.lt
  have hlB9B5 : B5 < B9 := by rw [← hB9]; exact HB5.out.lt
  have hlB9B7 : B7 < B9 := by rw [← hB9]; exact HB7.out.lt
  have hNB9 : N ≤ B9 := by rw [← hB9]; have := HB.out.size; have := HN.out; omega
  clear hB9 hCB9
  simp only [Act.put, List.setIfInBounds_toArray, List.set]
  replace HX0 := Lib.hid (HX0.out.ext hbr9)
  replace HX1 := Lib.hid (HX1.out.ext hbr9)
  replace HB3 := Lib.hid (HB3.out.ext hbr9)
  replace HB5 := Lib.hid (HB5.out.ext hbr9)
  replace HB7 := Lib.hid (HB7.out.ext hbr9)
  replace HB := Lib.hid (HB.out.trans (hbr9.mono (show N ≤ _ by have := HB.out.size; have := HN.out; omega)))
  clear hbr9
  go_upto_region 7 with fail
  refine wp_region_seq 6 ?_
  simp only [List.take_succ_cons, List.take_zero, List.drop_succ_cons, List.drop_zero]
  refine upW_val (by rfl) (by rfl) (by rfl) (fun K hK => quiet_load_ct _ _ rfl B5 rfl 24 (PB (pN q3)) 32 (PB_rw (pN q3)) _ HB5.out Try.underlying24 rfl (by kernel_rfl) (hK _ ?_))
  simp only [Act.put, List.setIfInBounds_toArray, List.set]
  refine upW_val (by rfl) (by rfl) (by rfl) (fun K hK => quiet_load_ct _ _ rfl B3 rfl 24 (PB (pN q1)) 32 (PB_rw (pN q1)) _ HB3.out Try.underlying24 rfl (by kernel_rfl) (hK _ ?_))
  simp only [Act.put, List.setIfInBounds_toArray, List.set]
  refine upW_call (by rfl) (by rfl) (.tuple #[.agg (PB (pN q9)), .bool true]) _ rfl (by simp) (fun p => ?_) ?_
  · go_big_quiet_op
    exact ⟨_, fun q => Calls.ext_of (HQ10.out q.x), rfl⟩
  simp only [Act.put, List.setIfInBounds_toArray, List.set]
  refine upW_val (by rfl) (by rfl) (by rfl) ?_
  intro K hK
  go_big_quiet_op
  refine hK _ ?_
  refine upW_late (by rfl) (.agg (PB (pN q9))) (fun _ => rfl) ?_
  simp only [Act.put, List.setIfInBounds_toArray, List.set]
  refine upW_late (by rfl) (.bool true) (fun _ => rfl) ?_
  simp only [Act.put, List.setIfInBounds_toArray, List.set]
  refine upW_nil (fun wr10 hbr10 => ?_)
  replace HX0 := Lib.hid (HX0.out.ext hbr10)
  replace HX1 := Lib.hid (HX1.out.ext hbr10)
  replace HB3 := Lib.hid (HB3.out.ext hbr10)
  replace HB5 := Lib.hid (HB5.out.ext hbr10)
  replace HB7 := Lib.hid (HB7.out.ext hbr10)
  replace HB9 := Lib.hid (HB9.out.ext hbr10)
  replace HB := Lib.hid (HB.out.trans (hbr10.mono (show N ≤ _ by have := HB.out.size; have := HN.out; omega)))
  clear hbr10
  refine wpList_new1 rfl 24 rfl (PB 0) zPt rfl _ _ rfl rfl (PB (pN q9)) 32 (PB_rw (pN q9)) (PB_rw 0).size (by kernel_rfl) rfl rfl (fun B11 wr11 hB11 hbr11 hCB11 => ?_)
  have HB11 := Lib.hid hCB11
  have hlB11X0 : N < B11 := by rw [← hB11]; exact HX0.out.lt
  have hlB11X1 : (N + 1) < B11 := by rw [← hB11]; exact HX1.out.lt
  have hlB11B3 : B3 < B11 := by rw [← hB11]; exact HB3.out.lt
  have hlB11B5 : B5 < B11 := by rw [← hB11]; exact HB5.out.lt
  have hlB11B7 : B7 < B11 := by rw [← hB11]; exact HB7.out.lt
  have hlB11B9 : B9 < B11 := by rw [← hB11]; exact HB9.out.lt
  have hNB11 : N ≤ B11 := by rw [← hB11]; have := HB.out.size; have := HN.out; omega
  clear hB11 hCB11
  simp only [Act.put, List.setIfInBounds_toArray, List.set]
  replace HX0 := Lib.hid (HX0.out.ext hbr11)
  replace HX1 := Lib.hid (HX1.out.ext hbr11)
  replace HB3 := Lib.hid (HB3.out.ext hbr11)
  replace HB5 := Lib.hid (HB5.out.ext hbr11)
  replace HB7 := Lib.hid (HB7.out.ext hbr11)
  replace HB9 := Lib.hid (HB9.out.ext hbr11)
  replace HB := Lib.hid (HB.out.trans (hbr11.mono (show N ≤ _ by have := HB.out.size; have := HN.out; omega)))
  clear hbr11
  go_upto_region 8 with fail
  refine wp_region_seq 6 ?_
  simp only [List.take_succ_cons, List.take_zero, List.drop_succ_cons, List.drop_zero]
  refine upW_val (by rfl) (by rfl) (by rfl) (fun K hK => quiet_load_ct _ _ rfl B9 rfl 24 (PB (pN q7)) 32 (PB_rw (pN q7)) _ HB9.out Try.underlying24 rfl (by kernel_rfl) (hK _ ?_))
  simp only [Act.put, List.setIfInBounds_toArray, List.set]
  refine upW_val (by rfl) (by rfl) (by rfl) (fun K hK => quiet_load_ct _ _ rfl B7 rfl 24 (PB (pN q5)) 32 (PB_rw (pN q5)) _ HB7.out Try.underlying24 rfl (by kernel_rfl) (hK _ ?_))
  simp only [Act.put, List.setIfInBounds_toArray, List.set]
  refine upW_call (by rfl) (by rfl) (.tuple #[.agg (PB (pN q11)), .bool true]) _ rfl (by simp) (fun p => ?_) ?_
  · go_big_quiet_op
    exact ⟨_, fun q => Calls.ext_of (HQ12.out q.x), rfl⟩
  simp only [Act.put, List.setIfInBounds_toArray, List.set]
  refine upW_val (by rfl) (by rfl) (by rfl) ?_
  intro K hK
  go_big_quiet_op
  refine hK _ ?_
  refine upW_late (by rfl) (.agg (PB (pN q11))) (fun _ => rfl) ?_
  simp only [Act.put, List.setIfInBounds_toArray, List.set]
  refine upW_late (by rfl) (.bool true) (fun _ => rfl) ?_
  simp only [Act.put, List.setIfInBounds_toArray, List.set]
  refine upW_nil (fun wr12 hbr12 => ?_)
  replace HX0 := Lib.hid (HX0.out.ext hbr12)
  replace HX1 := Lib.hid (HX1.out.ext hbr12)
  replace HB3 := Lib.hid (HB3.out.ext hbr12)
  replace HB5 := Lib.hid (HB5.out.ext hbr12)
  replace HB7 := Lib.hid (HB7.out.ext hbr12)
  replace HB9 := Lib.hid (HB9.out.ext hbr12)
  replace HB11 := Lib.hid (HB11.out.ext hbr12)
  replace HB := Lib.hid (HB.out.trans (hbr12.mono (show N ≤ _ by have := HB.out.size; have := HN.out; omega)))
  clear hbr12
  refine wpList_new1 rfl 24 rfl (PB 0) zPt rfl _ _ rfl rfl (PB (pN q11)) 32 (PB_rw (pN q11)) (PB_rw 0).size (by kernel_rfl) rfl rfl (fun B13 wr13 hB13 hbr13 hCB13 => ?_)
  have HB13 := Lib.hid hCB13
  have hlB13X0 : N < B13 := by rw [← hB13]; exact HX0.out.lt
  have hlB13X1 : (N + 1) < B13 := by rw [← hB13]; exact HX1.out.lt
  have hlB13B3 : B3 < B13 := by rw [← hB13]; exact HB3.out.lt
  have hlB13B5 : B5 < B13 := by rw [← hB13]; exact HB5.out.lt
  have hlB13B7 : B7 < B13 := by rw [← hB13]; exact HB7.out.lt
  have hlB13B9 : B9 < B13 := by rw [← hB13]; exact HB9.out.lt
  have hlB13B11 : B11 < B13 := by rw [← hB13]; exact HB11.out.lt
  have hNB13 : N ≤ B13 := by rw [← hB13]; have := HB.out.size; have := HN.out; omega
  clear hB13 hCB13
  simp only [Act.put, List.setIfInBounds_toArray, List.set]
  replace HX0 := Lib.hid (HX0.out.ext hbr13)
  replace HX1 := Lib.hid (HX1.out.ext hbr13)
  replace HB3 := Lib.hid (HB3.out.ext hbr13)
  replace HB5 := Lib.hid (HB5.out.ext hbr13)
  replace HB7 := Lib.hid (HB7.out.ext hbr13)
  replace HB9 := Lib.hid (HB9.out.ext hbr13)
  replace HB11 := Lib.hid (HB11.out.ext hbr13)
  replace HB := Lib.hid (HB.out.trans (hbr13.mono (show N ≤ _ by have := HB.out.size; have := HN.out; omega)))
  clear hbr13
  go_upto_region 9 with fail
  refine wp_region_seq 6 ?_
  simp only [List.take_succ_cons, List.take_zero, List.drop_succ_cons, List.drop_zero]
  refine upW_val (by rfl) (by rfl) (by rfl) (fun K hK => quiet_load_ct _ _ rfl B5 rfl 24 (PB (pN q3)) 32 (PB_rw (pN q3)) _ HB5.out Try.underlying24 rfl (by kernel_rfl) (hK _ ?_))
  simp only [Act.put, List.setIfInBounds_toArray, List.set]
  refine upW_val (by rfl) (by rfl) (by rfl) (fun K hK => quiet_load_ct _ _ rfl B7 rfl 24 (PB (pN q5)) 32 (PB_rw (pN q5)) _ HB7.out Try.underlying24 rfl (by kernel_rfl) (hK _ ?_))
  simp only [Act.put, List.setIfInBounds_toArray, List.set]
  refine upW_call (by rfl) (by rfl) (.tuple #[.agg (PB (pN q13)), .bool true]) _ rfl (by simp) (fun p => ?_) ?_
  · go_big_quiet_op
    exact ⟨_, fun q => Calls.ext_of (HQ14.out q.x), rfl⟩
  simp only [Act.put, List.setIfInBounds_toArray, List.set]
  refine upW_val (by rfl) (by rfl) (by rfl) ?_
  intro K hK
  go_big_quiet_op
  refine hK _ ?_
  refine upW_late (by rfl) (.agg (PB (pN q13))) (fun _ => rfl) ?_
  simp only [Act.put, List.setIfInBounds_toArray, List.set]
  refine upW_late (by rfl) (.bool true) (fun _ => rfl) ?_
  simp only [Act.put, List.setIfInBounds_toArray, List.set]
  refine upW_nil (fun wr14 hbr14 => ?_)
  replace HX0 := Lib.hid (HX0.out.ext hbr14)
  replace HX1 := Lib.hid (HX1.out.ext hbr14)
  replace HB3 := Lib.hid (HB3.out.ext hbr14)
  replace HB5 := Lib.hid (HB5.out.ext hbr14)
  replace HB7 := Lib.hid (HB7.out.ext hbr14)
  replace HB9 := Lib.hid (HB9.out.ext hbr14)
  replace HB11 := Lib.hid (HB11.out.ext hbr14)
  replace HB13 := Lib.hid (HB13.out.ext hbr14)
  replace HB := Lib.hid (HB.out.trans (hbr14.mono (show N ≤ _ by have := HB.out.size; have := HN.out; omega)))
  clear hbr14
  refine wpList_new1 rfl 24 rfl (PB 0) zPt rfl _ _ rfl rfl (PB (pN q13)) 32 (PB_rw (pN q13)) (PB_rw 0).size (by kernel_rfl) rfl rfl (fun B15 wr15 hB15 hbr15 hCB15 => ?_)
  have HB15 := Lib.hid hCB15
  have hlB15X0 : N < B15 := by rw [← hB15]; exact HX0.out.lt
  have hlB15X1 : (N + 1) < B15 := by rw [← hB15]; exact HX1.out.lt
  have hlB15B3 : B3 < B15 := by rw [← hB15]; exact HB3.out.lt
  have hlB15B5 : B5 < B15 := by rw [← hB15]; exact HB5.out.lt
  have hlB15B7 : B7 < B15 := by rw [← hB15]; exact HB7.out.lt
  have hlB15B9 : B9 < B15 := by rw [← hB15]; exact HB9.out.lt
  have hlB15B11 : B11 < B15 := by rw [← hB15]; exact HB11.out.lt
  have hlB15B13 : B13 < B15 := by rw [← hB15]; exact HB13.out.lt
  have hNB15 : N ≤ B15 := by rw [← hB15]; have := HB.out.size; have := HN.out; omega
  clear hB15 hCB15
  simp only [Act.put, List.setIfInBounds_toArray, List.set]
  replace HX0 := Lib.hid (HX0.out.ext hbr15)
  replace HX1 := Lib.hid (HX1.out.ext hbr15)
  replace HB3 := Lib.hid (HB3.out.ext hbr15)
  replace HB5 := Lib.hid (HB5.out.ext hbr15)
  replace HB7 := Lib.hid (HB7.out.ext hbr15)
  replace HB9 := Lib.hid (HB9.out.ext hbr15)
  replace HB11 := Lib.hid (HB11.out.ext hbr15)
  replace HB13 := Lib.hid (HB13.out.ext hbr15)
  replace HB := Lib.hid (HB.out.trans (hbr15.mono (show N ≤ _ by have := HB.out.size; have := HN.out; omega)))
  clear hbr15
  go_upto_region 10 with fail
  refine wp_region_whole [0, 1, 2, 3, 4, 5, 8] [⟨6, _, 24, (PB 0), 21, 7, _, 24, 77, (PB (pN q15))⟩] [7, 6] (by kernel_rfl) (by kernel_rfl) (List.forall_mem_cons.2 ⟨⟨⟨rfl, rfl, rfl, fun a w => alloc_run _ _ zPt a _ rfl w⟩, rfl, rfl, rfl, rfl, (PB_rw (pN q15)).info (by kernel_rfl), (PB_rw 0).same (PB_rw (pN q15)), (PB_rw (pN q15)).one⟩, (List.forall_mem_nil _)⟩) rfl ?_
  simp only [List.foldl, List.eraseIdx_cons_succ, List.eraseIdx_cons_zero]
  refine upW_val (by rfl) (by rfl) (by rfl) (fun K hK => quiet_load_ct _ _ rfl B3 rfl 24 (PB (pN q1)) 32 (PB_rw (pN q1)) _ HB3.out Try.underlying24 rfl (by kernel_rfl) (hK _ ?_))
  simp only [Act.put, List.setIfInBounds_toArray, List.set]
  refine upW_call (by rfl) (by rfl) (.agg (PB (pN pzero))) _ rfl (by simp) (fun p => ?_) ?_
  · go_big_quiet_op
    exact ⟨_, fun q => Calls.ext_of (Zero_pt q.x), rfl⟩
  simp only [Act.put, List.setIfInBounds_toArray, List.set]
  refine upW_call (by rfl) (by rfl) (.tuple #[.agg (PB (pN q15)), .bool true]) _ rfl (by simp) (fun p => ?_) ?_
  · go_big_quiet_op
    exact ⟨_, fun q => Calls.ext_of (HQ16.out q.x), rfl⟩
  simp only [Act.put, List.setIfInBounds_toArray, List.set]
  refine upW_val (by rfl) (by rfl) (by rfl) ?_
  intro K hK
  go_big_quiet_op
  refine hK _ ?_
  refine upW_late (by rfl) (.agg (PB (pN q15))) (fun _ => rfl) ?_
  simp only [Act.put, List.setIfInBounds_toArray, List.set]
  refine upW_late (by rfl) (.bool true) (fun _ => rfl) ?_
  simp only [Act.put, List.setIfInBounds_toArray, List.set]
  refine upW_val (by rfl) (by rfl) (by rfl) ?_
  intro K hK
  go_big_quiet_op
  refine hK _ ?_
  refine upW_nil ⟨(List.forall_mem_cons.2 ⟨rfl, (List.forall_mem_nil _)⟩), fun M wr16 hM hne hbr16 => ?_⟩
  have hm0 := hM _ (List.mem_cons_self ..)
  clear hM hne
  simp only [List.foldr, pS, Act.put, List.setIfInBounds_toArray, List.set]
  obtain ⟨B16x0, hB16x0⟩ : ∃ m, M 6 = m := ⟨_, rfl⟩
  have HB16x0 := Lib.hid (show CT wr16 B16x0 24 (PB (pN q15)) by rw [← hB16x0]; exact hm0.2)
  have hlB16x0X0 : N < B16x0 := by rw [← hB16x0]; exact Nat.lt_of_lt_of_le HX0.out.lt hm0.1
  have hlB16x0X1 : (N + 1) < B16x0 := by rw [← hB16x0]; exact Nat.lt_of_lt_of_le HX1.out.lt hm0.1
  have hlB16x0B3 : B3 < B16x0 := by rw [← hB16x0]; exact Nat.lt_of_lt_of_le HB3.out.lt hm0.1
  have hlB16x0B5 : B5 < B16x0 := by rw [← hB16x0]; exact Nat.lt_of_lt_of_le HB5.out.lt hm0.1
  have hlB16x0B7 : B7 < B16x0 := by rw [← hB16x0]; exact Nat.lt_of_lt_of_le HB7.out.lt hm0.1
  have hlB16x0B9 : B9 < B16x0 := by rw [← hB16x0]; exact Nat.lt_of_lt_of_le HB9.out.lt hm0.1
  have hlB16x0B11 : B11 < B16x0 := by rw [← hB16x0]; exact Nat.lt_of_lt_of_le HB11.out.lt hm0.1
  have hlB16x0B13 : B13 < B16x0 := by rw [← hB16x0]; exact Nat.lt_of_lt_of_le HB13.out.lt hm0.1
  have hlB16x0B15 : B15 < B16x0 := by rw [← hB16x0]; exact Nat.lt_of_lt_of_le HB15.out.lt hm0.1
  have hNB16x0 : N ≤ B16x0 := by rw [← hB16x0]; exact Nat.le_trans (by have := HB.out.size; have := HN.out; omega) hm0.1
  rw [hB16x0]
  clear hm0 hB16x0
  replace HX0 := Lib.hid (HX0.out.ext hbr16)
  replace HX1 := Lib.hid (HX1.out.ext hbr16)
  replace HB3 := Lib.hid (HB3.out.ext hbr16)
  replace HB5 := Lib.hid (HB5.out.ext hbr16)
  replace HB7 := Lib.hid (HB7.out.ext hbr16)
  replace HB9 := Lib.hid (HB9.out.ext hbr16)
  replace HB11 := Lib.hid (HB11.out.ext hbr16)
  replace HB13 := Lib.hid (HB13.out.ext hbr16)
  replace HB15 := Lib.hid (HB15.out.ext hbr16)
  replace HB := Lib.hid (HB.out.trans (hbr16.mono (show N ≤ _ by have := HB.out.size; have := HN.out; omega)))
  clear hbr16
  go_upto_region 11 with fail
  refine wp_region_seq 6 ?_
  simp only [List.take_succ_cons, List.take_zero, List.drop_succ_cons, List.drop_zero]
  refine upW_val (by rfl) (by rfl) (by rfl) (fun K hK => quiet_load_ct _ _ rfl B3 rfl 24 (PB (pN q1)) 32 (PB_rw (pN q1)) _ HB3.out Try.underlying24 rfl (by kernel_rfl) (hK _ ?_))
  simp only [Act.put, List.setIfInBounds_toArray, List.set]
  refine upW_val (by rfl) (by rfl) (by rfl) (fun K hK => quiet_load_ct _ _ rfl B3 rfl 24 (PB (pN q1)) 32 (PB_rw (pN q1)) _ HB3.out Try.underlying24 rfl (by kernel_rfl) (hK _ ?_))
  simp only [Act.put, List.setIfInBounds_toArray, List.set]
  refine upW_call (by rfl) (by rfl) (.tuple #[.agg (PB (pN q17)), .bool true]) _ rfl (by simp) (fun p => ?_) ?_
  · go_big_quiet_op
    exact ⟨_, fun q => Calls.ext_of (HQ18.out q.x), rfl⟩
  simp only [Act.put, List.setIfInBounds_toArray, List.set]
  refine upW_val (by rfl) (by rfl) (by rfl) ?_
  intro K hK
  go_big_quiet_op
  refine hK _ ?_
  refine upW_late (by rfl) (.agg (PB (pN q17))) (fun _ => rfl) ?_
  simp only [Act.put, List.setIfInBounds_toArray, List.set]
  refine upW_late (by rfl) (.bool true) (fun _ => rfl) ?_
  simp only [Act.put, List.setIfInBounds_toArray, List.set]
  refine upW_nil (fun wr17 hbr17 => ?_)
  replace HX0 := Lib.hid (HX0.out.ext hbr17)
  replace HX1 := Lib.hid (HX1.out.ext hbr17)
  replace HB3 := Lib.hid (HB3.out.ext hbr17)
  replace HB5 := Lib.hid (HB5.out.ext hbr17)
  replace HB7 := Lib.hid (HB7.out.ext hbr17)
  replace HB9 := Lib.hid (HB9.out.ext hbr17)
  replace HB11 := Lib.hid (HB11.out.ext hbr17)
  replace HB13 := Lib.hid (HB13.out.ext hbr17)
  replace HB15 := Lib.hid (HB15.out.ext hbr17)
  replace HB16x0 := Lib.hid (HB16x0.out.ext hbr17)
  replace HB := Lib.hid (HB.out.trans (hbr17.mono (show N ≤ _ by have := HB.out.size; have := HN.out; omega)))
  clear hbr17
  refine wpList_new1 rfl 24 rfl (PB 0) zPt rfl _ _ rfl rfl (PB (pN q17)) 32 (PB_rw (pN q17)) (PB_rw 0).size (by kernel_rfl) rfl rfl (fun B18 wr18 hB18 hbr18 hCB18 => ?_)
  have HB18 := Lib.hid hCB18
  have hlB18X0 : N < B18 := by rw [← hB18]; exact HX0.out.lt
  have hlB18X1 : (N + 1) < B18 := by rw [← hB18]; exact HX1.out.lt
  have hlB18B3 : B3 < B18 := by rw [← hB18]; exact HB3.out.lt
  have hlB18B5 : B5 < B18 := by rw [← hB18]; exact HB5.out.lt
  have hlB18B7 : B7 < B18 := by rw [← hB18]; exact HB7.out.lt
  have hlB18B9 : B9 < B18 := by rw [← hB18]; exact HB9.out.lt
  have hlB18B11 : B11 < B18 := by rw [← hB18]; exact HB11.out.lt
  have hlB18B13 : B13 < B18 := by rw [← hB18]; exact HB13.out.lt
  have hlB18B15 : B15 < B18 := by rw [← hB18]; exact HB15.out.lt
  have hlB18B16x0 : B16x0 < B18 := by rw [← hB18]; exact HB16x0.out.lt
  have hNB18 : N ≤ B18 := by rw [← hB18]; have := HB.out.size; have := HN.out; omega
  clear hB18 hCB18
  simp only [Act.put, List.setIfInBounds_toArray, List.set]
  replace HX0 := Lib.hid (HX0.out.ext hbr18)
  replace HX1 := Lib.hid (HX1.out.ext hbr18)
  replace HB3 := Lib.hid (HB3.out.ext hbr18)
  replace HB5 := Lib.hid (HB5.out.ext hbr18)
  replace HB7 := Lib.hid (HB7.out.ext hbr18)
  replace HB9 := Lib.hid (HB9.out.ext hbr18)
  replace HB11 := Lib.hid (HB11.out.ext hbr18)
  replace HB13 := Lib.hid (HB13.out.ext hbr18)
  replace HB15 := Lib.hid (HB15.out.ext hbr18)
  replace HB16x0 := Lib.hid (HB16x0.out.ext hbr18)
  replace HB := Lib.hid (HB.out.trans (hbr18.mono (show N ≤ _ by have := HB.out.size; have := HN.out; omega)))
  clear hbr18
  go_upto_region 12 with fail
  refine wp_region_seq 6 ?_
  simp only [List.take_succ_cons, List.take_zero, List.drop_succ_cons, List.drop_zero]
  refine upW_val (by rfl) (by rfl) (by rfl) (fun K hK => quiet_load_ct _ _ rfl B18 rfl 24 (PB (pN q17)) 32 (PB_rw (pN q17)) _ HB18.out Try.underlying24 rfl (by kernel_rfl) (hK _ ?_))
  simp only [Act.put, List.setIfInBounds_toArray, List.set]
  refine upW_val (by rfl) (by rfl) (by rfl) (fun K hK => quiet_load_ct _ _ rfl B5 rfl 24 (PB (pN q3)) 32 (PB_rw (pN q3)) _ HB5.out Try.underlying24 rfl (by kernel_rfl) (hK _ ?_))
  simp only [Act.put, List.setIfInBounds_toArray, List.set]
  refine upW_call (by rfl) (by rfl) (.tuple #[.agg (PB (pN q19)), .bool true]) _ rfl (by simp) (fun p => ?_) ?_
  · go_big_quiet_op
    exact ⟨_, fun q => Calls.ext_of (HQ20.out q.x), rfl⟩
  simp only [Act.put, List.setIfInBounds_toArray, List.set]
  refine upW_val (by rfl) (by rfl) (by rfl) ?_
  intro K hK
  go_big_quiet_op
  refine hK _ ?_
  refine upW_late (by rfl) (.agg (PB (pN q19))) (fun _ => rfl) ?_
  simp only [Act.put, List.setIfInBounds_toArray, List.set]
  refine upW_late (by rfl) (.bool true) (fun _ => rfl) ?_
  simp only [Act.put, List.setIfInBounds_toArray, List.set]
  refine upW_nil (fun wr19 hbr19 => ?_)
  replace HX0 := Lib.hid (HX0.out.ext hbr19)
  replace HX1 := Lib.hid (HX1.out.ext hbr19)
  replace HB3 := Lib.hid (HB3.out.ext hbr19)
  replace HB5 := Lib.hid (HB5.out.ext hbr19)
  replace HB7 := Lib.hid (HB7.out.ext hbr19)
  replace HB9 := Lib.hid (HB9.out.ext hbr19)
  replace HB11 := Lib.hid (HB11.out.ext hbr19)
  replace HB13 := Lib.hid (HB13.out.ext hbr19)
  replace HB15 := Lib.hid (HB15.out.ext hbr19)
  replace HB16x0 := Lib.hid (HB16x0.out.ext hbr19)
  replace HB18 := Lib.hid (HB18.out.ext hbr19)
  replace HB := Lib.hid (HB.out.trans (hbr19.mono (show N ≤ _ by have := HB.out.size; have := HN.out; omega)))
  clear hbr19
  refine wpList_new1 rfl 24 rfl (PB 0) zPt rfl _ _ rfl rfl (PB (pN q19)) 32 (PB_rw (pN q19)) (PB_rw 0).size (by kernel_rfl) rfl rfl (fun B20 wr20 hB20 hbr20 hCB20 => ?_)
  have HB20 := Lib.hid hCB20
  have hlB20X0 : N < B20 := by rw [← hB20]; exact HX0.out.lt
  have hlB20X1 : (N + 1) < B20 := by rw [← hB20]; exact HX1.out.lt
  have hlB20B3 : B3 < B20 := by rw [← hB20]; exact HB3.out.lt
  have hlB20B5 : B5 < B20 := by rw [← hB20]; exact HB5.out.lt
  have hlB20B7 : B7 < B20 := by rw [← hB20]; exact HB7.out.lt
  have hlB20B9 : B9 < B20 := by rw [← hB20]; exact HB9.out.lt
  have hlB20B11 : B11 < B20 := by rw [← hB20]; exact HB11.out.lt
  have hlB20B13 : B13 < B20 := by rw [← hB20]; exact HB13.out.lt
  have hlB20B15 : B15 < B20 := by rw [← hB20]; exact HB15.out.lt
  have hlB20B16x0 : B16x0 < B20 := by rw [← hB20]; exact HB16x0.out.lt
  have hlB20B18 : B18 < B20 := by rw [← hB20]; exact HB18.out.lt
  have hNB20 : N ≤ B20 := by rw [← hB20]; have := HB.out.size; have := HN.out; omega
  clear hB20 hCB20
  simp only [Act.put, List.setIfInBounds_toArray, List.set]
  replace HX0 := Lib.hid (HX0.out.ext hbr20)
  replace HX1 := Lib.hid (HX1.out.ext hbr20)
  replace HB3 := Lib.hid (HB3.out.ext hbr20)
  replace HB5 := Lib.hid (HB5.out.ext hbr20)
  replace HB7 := Lib.hid (HB7.out.ext hbr20)
  replace HB9 := Lib.hid (HB9.out.ext hbr20)
  replace HB11 := Lib.hid (HB11.out.ext hbr20)
  replace HB13 := Lib.hid (HB13.out.ext hbr20)
  replace HB15 := Lib.hid (HB15.out.ext hbr20)
  replace HB16x0 := Lib.hid (HB16x0.out.ext hbr20)
  replace HB18 := Lib.hid (HB18.out.ext hbr20)
  replace HB := Lib.hid (HB.out.trans (hbr20.mono (show N ≤ _ by have := HB.out.size; have := HN.out; omega)))
  clear hbr20
  go_upto_region 13 with fail
  refine wp_region_seq 6 ?_
  simp only [List.take_succ_cons, List.take_zero, List.drop_succ_cons, List.drop_zero]
  refine upW_val (by rfl) (by rfl) (by rfl) (fun K hK => quiet_load_ct _ _ rfl B3 rfl 24 (PB (pN q1)) 32 (PB_rw (pN q1)) _ HB3.out Try.underlying24 rfl (by kernel_rfl) (hK _ ?_))
  simp only [Act.put, List.setIfInBounds_toArray, List.set]
  refine upW_val (by rfl) (by rfl) (by rfl) (fun K hK => quiet_load_ct _ _ rfl B9 rfl 24 (PB (pN q7)) 32 (PB_rw (pN q7)) _ HB9.out Try.underlying24 rfl (by kernel_rfl) (hK _ ?_))
  simp only [Act.put, List.setIfInBounds_toArray, List.set]
  refine upW_call (by rfl) (by rfl) (.tuple #[.agg (PB (pN q21)), .bool true]) _ rfl (by simp) (fun p => ?_) ?_
  · go_big_quiet_op
    exact ⟨_, fun q => Calls.ext_of (HQ22.out q.x), rfl⟩
  simp only [Act.put, List.setIfInBounds_toArray, List.set]
  refine upW_val (by rfl) (by rfl) (by rfl) ?_
  intro K hK
  go_big_quiet_op
  refine hK _ ?_
  refine upW_late (by rfl) (.agg (PB (pN q21))) (fun _ => rfl) ?_
  simp only [Act.put, List.setIfInBounds_toArray, List.set]
  refine upW_late (by rfl) (.bool true) (fun _ => rfl) ?_
  simp only [Act.put, List.setIfInBounds_toArray, List.set]
  refine upW_nil (fun wr21 hbr21 => ?_)
  replace HX0 := Lib.hid (HX0.out.ext hbr21)
  replace HX1 := Lib.hid (HX1.out.ext hbr21)
  replace HB3 := Lib.hid (HB3.out.ext hbr21)
  replace HB5 := Lib.hid (HB5.out.ext hbr21)
  replace HB7 := Lib.hid (HB7.out.ext hbr21)
  replace HB9 := Lib.hid (HB9.out.ext hbr21)
  replace HB11 := Lib.hid (HB11.out.ext hbr21)
  replace HB13 := Lib.hid (HB13.out.ext hbr21)
  replace HB15 := Lib.hid (HB15.out.ext hbr21)
  replace HB16x0 := Lib.hid (HB16x0.out.ext hbr21)
  replace HB18 := Lib.hid (HB18.out.ext hbr21)
  replace HB20 := Lib.hid (HB20.out.ext hbr21)
  replace HB := Lib.hid (HB.out.trans (hbr21.mono (show N ≤ _ by have := HB.out.size; have := HN.out; omega)))
  clear hbr21
  refine wpList_new1 rfl 24 rfl (PB 0) zPt rfl _ _ rfl rfl (PB (pN q21)) 32 (PB_rw (pN q21)) (PB_rw 0).size (by kernel_rfl) rfl rfl (fun B22 wr22 hB22 hbr22 hCB22 => ?_)
  have HB22 := Lib.hid hCB22
  have hlB22X0 : N < B22 := by rw [← hB22]; exact HX0.out.lt
  have hlB22X1 : (N + 1) < B22 := by rw [← hB22]; exact HX1.out.lt
  have hlB22B3 : B3 < B22 := by rw [← hB22]; exact HB3.out.lt
  have hlB22B5 : B5 < B22 := by rw [← hB22]; exact HB5.out.lt
  have hlB22B7 : B7 < B22 := by rw [← hB22]; exact HB7.out.lt
  have hlB22B9 : B9 < B22 := by rw [← hB22]; exact HB9.out.lt
  have hlB22B11 : B11 < B22 := by rw [← hB22]; exact HB11.out.lt
  have hlB22B13 : B13 < B22 := by rw [← hB22]; exact HB13.out.lt
  have hlB22B15 : B15 < B22 := by rw [← hB22]; exact HB15.out.lt
  have hlB22B16x0 : B16x0 < B22 := by rw [← hB22]; exact HB16x0.out.lt
  have hlB22B18 : B18 < B22 := by rw [← hB22]; exact HB18.out.lt
  have hlB22B20 : B20 < B22 := by rw [← hB22]; exact HB20.out.lt
  have hNB22 : N ≤ B22 := by rw [← hB22]; have := HB.out.size; have := HN.out; omega
  clear hB22 hCB22
  simp only [Act.put, List.setIfInBounds_toArray, List.set]
  replace HX0 := Lib.hid (HX0.out.ext hbr22)
  replace HX1 := Lib.hid (HX1.out.ext hbr22)
  replace HB3 := Lib.hid (HB3.out.ext hbr22)
  replace HB5 := Lib.hid (HB5.out.ext hbr22)
  replace HB7 := Lib.hid (HB7.out.ext hbr22)
  replace HB9 := Lib.hid (HB9.out.ext hbr22)
  replace HB11 := Lib.hid (HB11.out.ext hbr22)
  replace HB13 := Lib.hid (HB13.out.ext hbr22)
  replace HB15 := Lib.hid (HB15.out.ext hbr22)
  replace HB16x0 := Lib.hid (HB16x0.out.ext hbr22)
  replace HB18 := Lib.hid (HB18.out.ext hbr22)
  replace HB20 := Lib.hid (HB20.out.ext hbr22)
  replace HB := Lib.hid (HB.out.trans (hbr22.mono (show N ≤ _ by have := HB.out.size; have := HN.out; omega)))
  clear hbr22
  go_upto_region 14 with fail
  refine wp_region_upT 60 _ (by kernel_rfl) (by kernel_rfl) rfl (by kernel_rfl) (fun _ _ dst _ _ h => by cases dst <;> exact h) ?_
  simp only [List.take_succ_cons, List.take_zero, List.drop_succ_cons, List.drop_zero]
  refine upW_val (by rfl) (by rfl) (by rfl) ?_
  intro K hK
  go_big_quiet_op
  refine hK _ ?_
  refine upW_val (by rfl) (by rfl) (by rfl) ?_
  intro K hK
  go_big_quiet_op
  refine hK _ ?_
  refine upW_val (by rfl) (by rfl) (by rfl) ?_
  intro K hK
  go_big_quiet_op
  refine hK _ ?_
  refine upW_val (by rfl) (by rfl) (by rfl) ?_
  intro K hK
  go_big_quiet_op
  refine hK _ ?_
  refine upW_val (by rfl) (by rfl) (by rfl) ?_
  intro K hK
  go_big_quiet_op
  refine hK _ ?_
  refine upW_val (by rfl) (by rfl) (by rfl) ?_
  intro K hK
  go_big_quiet_op
  refine hK _ ?_
  refine upW_val (by rfl) (by rfl) (by rfl) ?_
  intro K hK
  go_big_quiet_op
  refine hK _ ?_
  refine upW_val (by rfl) (by rfl) (by rfl) ?_
  intro K hK
  go_big_quiet_op
  refine hK _ ?_
  refine upW_val (by rfl) (by rfl) (by rfl) ?_
  intro K hK
  go_big_quiet_op
  refine hK _ ?_
  refine upW_val (by rfl) (by rfl) (by rfl) ?_
  intro K hK
  go_big_quiet_op
  refine hK _ ?_
  refine upW_val (by rfl) (by rfl) (by rfl) ?_
  intro K hK
  go_big_quiet_op
  refine hK _ ?_
  refine upW_val (by rfl) (by rfl) (by rfl) ?_
  intro K hK
  go_big_quiet_op
  refine hK _ ?_
  refine upW_val (by rfl) (by rfl) (by rfl) ?_
  intro K hK
  go_big_quiet_op
  refine hK _ ?_
  refine upW_val (by rfl) (by rfl) (by rfl) ?_
  intro K hK
  go_big_quiet_op
  refine hK _ ?_
  refine upW_val (by rfl) (by rfl) (by rfl) ?_
  intro K hK
  go_big_quiet_op
  refine hK _ ?_
  refine upW_val (by rfl) (by rfl) (by rfl) ?_
  intro K hK
  go_big_quiet_op
  refine hK _ ?_
  refine upW_val (by rfl) (by rfl) (by rfl) ?_
  intro K hK
  go_big_quiet_op
  refine hK _ ?_
  refine upW_val (by rfl) (by rfl) (by rfl) ?_
  intro K hK
  go_big_quiet_op
  refine hK _ ?_
  refine upW_val (by rfl) (by rfl) (by rfl) ?_
  intro K hK
  go_big_quiet_op
  refine hK _ ?_
  refine upW_val (by rfl) (by rfl) (by rfl) ?_
  intro K hK
  go_big_quiet_op
  refine hK _ ?_
  refine upW_val (by rfl) (by rfl) (by rfl) ?_
  intro K hK
  go_big_quiet_op
  refine hK _ ?_
  refine upW_val (by rfl) (by rfl) (by rfl) ?_
  intro K hK
  go_big_quiet_op
  refine hK _ ?_
  refine upW_val (by rfl) (by rfl) (by rfl) ?_
  intro K hK
  go_big_quiet_op
  refine hK _ ?_
  refine upW_val (by rfl) (by rfl) (by rfl) ?_
  intro K hK
  go_big_quiet_op
  refine hK _ ?_
  refine upW_val (by rfl) (by rfl) (by rfl) ?_
  intro K hK
  go_big_quiet_op
  refine hK _ ?_
  refine upW_val (by rfl) (by rfl) (by rfl) ?_
  intro K hK
  go_big_quiet_op
  refine hK _ ?_
  refine upW_val (by rfl) (by rfl) (by rfl) ?_
  intro K hK
  go_big_quiet_op
  refine hK _ ?_
  refine upW_val (by rfl) (by rfl) (by rfl) ?_
  intro K hK
  go_big_quiet_op
  refine hK _ ?_
  refine upW_val (by rfl) (by rfl) (by rfl) ?_
  intro K hK
  go_big_quiet_op
  refine hK _ ?_
  refine upW_val (by rfl) (by rfl) (by rfl) ?_
  intro K hK
  go_big_quiet_op
  refine hK _ ?_
  refine upW_val (by rfl) (by rfl) (by rfl) ?_
  intro K hK
  go_big_quiet_op
  refine hK _ ?_
  refine upW_val (by rfl) (by rfl) (by rfl) ?_
  intro K hK
  go_big_quiet_op
  refine hK _ ?_
  refine upW_val (by rfl) (by rfl) (by rfl) (fun K hK => quiet_load_ct _ _ rfl B9 rfl 24 (PB (pN q7)) 32 (PB_rw (pN q7)) _ HB9.out Try.underlying24 rfl (by kernel_rfl) (hK _ ?_))
  simp only [Act.put, List.setIfInBounds_toArray, List.set]
  refine upW_val (by rfl) (by rfl) (by rfl) (fun K hK => quiet_load_ct _ _ rfl B11 rfl 24 (PB (pN q9)) 32 (PB_rw (pN q9)) _ HB11.out Try.underlying24 rfl (by kernel_rfl) (hK _ ?_))
  simp only [Act.put, List.setIfInBounds_toArray, List.set]
  refine upW_late (by rfl) (.bool true) (fun w => run_eqP _ _ _ _ 24 rfl Try.underlying24 (pN q7) (pN q9) rfl rfl (pN_lt q7) (pN_lt q9) (by kernel_rfl) true (decide_eq_true (congrArg pN (by simp only [HE1.out, HE3.out, HE5.out, HE7.out, HE9.out, HE11.out, HE13.out, HE15.out, HE17.out, HE19.out, HE21.out]; exact padd_comm _ _))) w) ?_
  simp only [Act.put, List.setIfInBounds_toArray, List.set]
  refine upW_val (by rfl) (by rfl) (by rfl) ?_
  intro K hK
  go_big_quiet_op
  refine hK _ ?_
  refine upW_val (by rfl) (by rfl) (by rfl) ?_
  intro K hK
  go_big_quiet_op
  refine hK _ ?_
  refine upW_val (by rfl) (by rfl) (by rfl) (fun K hK => quiet_load_ct _ _ rfl B13 rfl 24 (PB (pN q11)) 32 (PB_rw (pN q11)) _ HB13.out Try.underlying24 rfl (by kernel_rfl) (hK _ ?_))
  simp only [Act.put, List.setIfInBounds_toArray, List.set]
  refine upW_val (by rfl) (by rfl) (by rfl) (fun K hK => quiet_load_ct _ _ rfl B3 rfl 24 (PB (pN q1)) 32 (PB_rw (pN q1)) _ HB3.out Try.underlying24 rfl (by kernel_rfl) (hK _ ?_))
  simp only [Act.put, List.setIfInBounds_toArray, List.set]
  refine upW_late (by rfl) (.bool true) (fun w => run_eqP _ _ _ _ 24 rfl Try.underlying24 (pN q11) (pN q1) rfl rfl (pN_lt q11) (pN_lt q1) (by kernel_rfl) true (decide_eq_true (congrArg pN (by simp only [HE1.out, HE3.out, HE5.out, HE7.out, HE9.out, HE11.out, HE13.out, HE15.out, HE17.out, HE19.out, HE21.out]; exact lw_x _ _))) w) ?_
  simp only [Act.put, List.setIfInBounds_toArray, List.set]
  refine upW_val (by rfl) (by rfl) (by rfl) ?_
  intro K hK
  go_big_quiet_op
  refine hK _ ?_
  refine upW_val (by rfl) (by rfl) (by rfl) ?_
  intro K hK
  go_big_quiet_op
  refine hK _ ?_
  refine upW_val (by rfl) (by rfl) (by rfl) (fun K hK => quiet_load_ct _ _ rfl B15 rfl 24 (PB (pN q13)) 32 (PB_rw (pN q13)) _ HB15.out Try.underlying24 rfl (by kernel_rfl) (hK _ ?_))
  simp only [Act.put, List.setIfInBounds_toArray, List.set]
  refine upW_call (by rfl) (by rfl) (.agg (PB (pN pzero))) _ rfl (by simp) (fun p => ?_) ?_
  · go_big_quiet_op
    exact ⟨_, fun q => Calls.ext_of (Zero_pt q.x), rfl⟩
  simp only [Act.put, List.setIfInBounds_toArray, List.set]
  refine upW_late (by rfl) (.bool true) (fun w => run_eqP _ _ _ _ 24 rfl Try.underlying24 (pN q13) (pN pzero) rfl rfl (pN_lt q13) (pN_lt pzero) (by kernel_rfl) true (decide_eq_true (congrArg pN (by simp only [HE1.out, HE3.out, HE5.out, HE7.out, HE9.out, HE11.out, HE13.out, HE15.out, HE17.out, HE19.out, HE21.out]; exact padd_neg _))) w) ?_
  simp only [Act.put, List.setIfInBounds_toArray, List.set]
  refine upW_val (by rfl) (by rfl) (by rfl) ?_
  intro K hK
  go_big_quiet_op
  refine hK _ ?_
  refine upW_val (by rfl) (by rfl) (by rfl) ?_
  intro K hK
  go_big_quiet_op
  refine hK _ ?_
  refine upW_val (by rfl) (by rfl) (by rfl) (fun K hK => quiet_load_ct _ _ rfl B16x0 rfl 24 (PB (pN q15)) 32 (PB_rw (pN q15)) _ HB16x0.out Try.underlying24 rfl (by kernel_rfl) (hK _ ?_))
  simp only [Act.put, List.setIfInBounds_toArray, List.set]
  refine upW_val (by rfl) (by rfl) (by rfl) (fun K hK => quiet_load_ct _ _ rfl B3 rfl 24 (PB (pN q1)) 32 (PB_rw (pN q1)) _ HB3.out Try.underlying24 rfl (by kernel_rfl) (hK _ ?_))
  simp only [Act.put, List.setIfInBounds_toArray, List.set]
  refine upW_late (by rfl) (.bool true) (fun w => run_eqP _ _ _ _ 24 rfl Try.underlying24 (pN q15) (pN q1) rfl rfl (pN_lt q15) (pN_lt q1) (by kernel_rfl) true (decide_eq_true (congrArg pN (by simp only [HE1.out, HE3.out, HE5.out, HE7.out, HE9.out, HE11.out, HE13.out, HE15.out, HE17.out, HE19.out, HE21.out]; exact padd_zero _))) w) ?_
  simp only [Act.put, List.setIfInBounds_toArray, List.set]
  refine upW_val (by rfl) (by rfl) (by rfl) ?_
  intro K hK
  go_big_quiet_op
  refine hK _ ?_
  refine upW_val (by rfl) (by rfl) (by rfl) ?_
  intro K hK
  go_big_quiet_op
  refine hK _ ?_
  refine upW_val (by rfl) (by rfl) (by rfl) (fun K hK => quiet_load_ct _ _ rfl B20 rfl 24 (PB (pN q19)) 32 (PB_rw (pN q19)) _ HB20.out Try.underlying24 rfl (by kernel_rfl) (hK _ ?_))
  simp only [Act.put, List.setIfInBounds_toArray, List.set]
  refine upW_val (by rfl) (by rfl) (by rfl) (fun K hK => quiet_load_ct _ _ rfl B22 rfl 24 (PB (pN q21)) 32 (PB_rw (pN q21)) _ HB22.out Try.underlying24 rfl (by kernel_rfl) (hK _ ?_))
  simp only [Act.put, List.setIfInBounds_toArray, List.set]
  refine upW_late (by rfl) (.bool true) (fun w => run_eqP _ _ _ _ 24 rfl Try.underlying24 (pN q19) (pN q21) rfl rfl (pN_lt q19) (pN_lt q21) (by kernel_rfl) true (decide_eq_true (congrArg pN (by simp only [HE1.out, HE3.out, HE5.out, HE7.out, HE9.out, HE11.out, HE13.out, HE15.out, HE17.out, HE19.out, HE21.out]; exact padd_assoc _ _ _))) w) ?_
  simp only [Act.put, List.setIfInBounds_toArray, List.set]
  refine upW_val (by rfl) (by rfl) (by rfl) ?_
  intro K hK
  go_big_quiet_op
  refine hK _ ?_
  refine upW_val (by rfl) (by rfl) (by rfl) ?_
  intro K hK
  go_big_quiet_op
  refine hK _ ?_
  refine upW_val (by rfl) (by rfl) (by rfl) (fun K hK => quiet_load_ct _ _ rfl B9 rfl 24 (PB (pN q7)) 32 (PB_rw (pN q7)) _ HB9.out Try.underlying24 rfl (by kernel_rfl) (hK _ ?_))
  simp only [Act.put, List.setIfInBounds_toArray, List.set]
  refine upW_call (by rfl) (by rfl) (.bool true) _ rfl (by simp) (fun p => ?_) ?_
  · go_big_quiet_op
    exact ⟨_, fun q => Calls.ext_of (HQ23.out q.x), rfl⟩
  simp only [Act.put, List.setIfInBounds_toArray, List.set]
  refine upW_val (by rfl) (by rfl) (by rfl) ?_
  intro K hK
  go_big_quiet_op
  refine hK _ ?_
  refine upW_nil (fun wr23 hbr23 => ?_)
  replace HX0 := Lib.hid (HX0.out.ext hbr23)
  replace HX1 := Lib.hid (HX1.out.ext hbr23)
  replace HB3 := Lib.hid (HB3.out.ext hbr23)
  replace HB5 := Lib.hid (HB5.out.ext hbr23)
  replace HB7 := Lib.hid (HB7.out.ext hbr23)
  replace HB9 := Lib.hid (HB9.out.ext hbr23)
  replace HB11 := Lib.hid (HB11.out.ext hbr23)
  replace HB13 := Lib.hid (HB13.out.ext hbr23)
  replace HB15 := Lib.hid (HB15.out.ext hbr23)
  replace HB16x0 := Lib.hid (HB16x0.out.ext hbr23)
  replace HB18 := Lib.hid (HB18.out.ext hbr23)
  replace HB20 := Lib.hid (HB20.out.ext hbr23)
  replace HB22 := Lib.hid (HB22.out.ext hbr23)
  replace HB := Lib.hid (HB.out.trans (hbr23.mono (show N ≤ _ by have := HB.out.size; have := HN.out; omega)))
  clear hbr23
  go_wp2
  go_ret
  exact ⟨rfl, by rw [HN.out]; exact HB.out⟩
theorem curveLaws_true (a b : List UInt8) (turn : Int) (w : World) (hla : a.length = 32) (hlb : b.length = 32) : Calls Try.prog 6 #[.agg (byteVals a).toArray, .agg (byteVals b).toArray, .int .i64 turn] w fun e w' => e = .returned (.bool true) ∧ Below w.heap.size w w' := by
  have ea : (byteVals a).toArray = PB (le a) := (PB_le hla).symm
  have eb : (byteVals b).toArray = PB (le b) := (PB_le hlb).symm
  rw [ea, eb]
  exact curveLaws_nat (le a) (le_32 a hla) (le b) (le_32 b hlb) turn w
theorem curveLaws_own : ownKnob Try.prog.godebug = none := by kernel_rfl

set_option maxRecDepth 100000 in
theorem curveLaws_lifted (os : Os) (started : os.Started) (H : Type) (enc : TypeId × Value → H) :
    ReturnsInHanded {} Try.checked os 6 .any (Rows.curveLawsSpec.pre6 enc Try.prog Try.f6 Rows.curveLawsRow.domain false) (Rows.curveLawsSpec.post enc Try.prog Try.f6 false true false false) := by
  refine returnsInHanded_of_change (C := Try.checked) curveLaws_own started (by kernel_rfl) Try.func6
    (ChangeSpec.witness6 (enc := enc) (C := Try.checked) false ⟨#[], #[.agg (Array.replicate 32 (.int .u8 0)), .agg (Array.replicate 32 (.int .u8 0)), .int .i64 0], []⟩ 8 (by kernel_rfl) (by kernel_rfl) (by kernel_rfl) (by kernel_rfl)) ?_
  intro W base args ds gs before hval0 hW hcnd _
  have hval : ∀ (j : Nat) t v, Try.f6.params[j]? = some t → args[j]? = some v → Value.okWide Try.prog W .any base t v := hval0
  have hW' := hW
  obtain ⟨p, q, hA0, hV, rfl, hfz, hnd⟩ := hW
  have hA : DataW.TrodAll enc Try.prog W 0 (fun _ => true) true Try.f6.params.toList args.toList ds p := hA0
  rw [Try.params6] at hA hval
  obtain ⟨v0, vs0, d0, ds0, p0, q0, hargs, rfl, rfl, h0, r0⟩ := trodAll_cons hA
  obtain ⟨v1, vs1, d1, ds1, p1, q1, rfl, rfl, rfl, h1, r1⟩ := trodAll_cons r0
  obtain ⟨v2, vs2, d2, ds2, p2, q2, rfl, rfl, rfl, h2, r2⟩ := trodAll_cons r1
  obtain ⟨rfl, rfl, rfl⟩ := trodAll_nil r2
  obtain rfl : args = #[v0, v1, v2] := by cases args; simp_all
  obtain ⟨rfl, rfl⟩ := trodVars_none hV
  obtain ⟨a0, hl0, rfl, rfl, rfl⟩ := open_arr8 Try.underlying23 Try.underlying5 (by kernel_rfl) (by kernel_rfl) (hval 0 23 v0 rfl rfl) h0
  obtain ⟨a1, hl1, rfl, rfl, rfl⟩ := open_arr8 Try.underlying23 Try.underlying5 (by kernel_rfl) (by kernel_rfl) (hval 1 23 v1 rfl rfl) h1
  obtain ⟨a2, rfl, rfl, rfl, w2⟩ := open_int Try.underlying3 (hval 2 3 v2 rfl rfl) h2
  clear hA0 hval0
  simp only [List.append_nil] at hW'
  refine (curveLaws_true a0 a1 a2 W hl0 hl1).mono fun e W' ⟨he, bel⟩ => ?_
  subst he
  exact ⟨_, rfl, _, _, _, [], [], [], hW', trodAll_mk1 (shut_bool Try.underlying4 _), (trodAll_cons_mk (shut_arr8 Try.underlying23 Try.underlying5 (by kernel_rfl) (by kernel_rfl) a0 hl0) (trodAll_cons_mk (shut_arr8 Try.underlying23 Try.underlying5 (by kernel_rfl) (by kernel_rfl) a1 hl1) (trodAll_cons_mk (shut_int Try.underlying3 w2) trodAll_mk0))), rfl, bel.frame _, fun h => by cases h⟩

theorem curveLaws_holds : Rows.CurveLawsSaid :=
  OpenClaim.holds_of_wide 6 Try.f6 rfl rfl rfl rfl rfl rfl rfl ⟨rfl, rfl, rfl, rfl, rfl⟩ rfl rfl rfl rfl rfl (by kernel_rfl) Try.func6 (by kernel_rfl)
    (of_decide_eq_true (by kernel_rfl)) (by unfold Func.isWrapper; first | (rw [if_pos (by decide +kernel)]; kernel_rfl) | (rw [if_neg (by decide +kernel)]; exact ⟨rfl, rfl⟩))
    (fun os started H enc _ => curveLaws_lifted os started H enc)
#print axioms curveLaws_holds

end Go.Proofs.Ytfmclkmmkceldaa
