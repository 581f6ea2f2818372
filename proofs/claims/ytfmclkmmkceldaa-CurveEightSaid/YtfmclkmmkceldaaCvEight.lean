/-
  CurveEight: any point taken eight times, and that L times, is Zero; taken once it is itself, twice it is added to itself, no time it is Zero.
  Conditions: none.
-/
import Derived.Test.YtfmclkmmkceldaaCvA
import Derived.Test.YtfmclkmmkceldaaFdO
namespace Go.Proofs.Ytfmclkmmkceldaa
open Go.RowKit

set_option linter.unusedSimpArgs false
set_option linter.unusedVariables false
open Go.ChangeShapes Go.WideShapes Go.ChangeAt
set_option maxRecDepth 100000 in
set_option maxHeartbeats 1000000 in
theorem curveEight_ok (p : Pt) (w : World) :
    Calls Try.prog 8 #[.agg (PB (pN p))] w fun e w' => e = .returned (.bool true) ∧ Below w.heap.size w w' := by
  obtain ⟨q1, hq1⟩ : ∃ q : Pt, q = ptimes 1 p := ⟨_, rfl⟩
  have HE1 := Lib.hid hq1
  clear hq1
  have HQ2 := Lib.hid (fun w => Times_ok 1 (by decide) p w)
  rw [← HE1.out] at HQ2
  have HQ3 := Lib.hid (fun w => Good_ok p w)
  obtain ⟨q4, hq4⟩ : ∃ q : Pt, q = ptimes 2 p := ⟨_, rfl⟩
  have HE4 := Lib.hid hq4
  clear hq4
  have HQ5 := Lib.hid (fun w => Times_ok 2 (by decide) p w)
  rw [← HE4.out] at HQ5
  obtain ⟨q6, hq6⟩ : ∃ q : Pt, q = padd p p := ⟨_, rfl⟩
  have HE6 := Lib.hid hq6
  clear hq6
  have HQ7 := Lib.hid (fun w => Add_ok p p w)
  rw [← HE6.out] at HQ7
  obtain ⟨q8, hq8⟩ : ∃ q : Pt, q = ptimes 0 p := ⟨_, rfl⟩
  have HE8 := Lib.hid hq8
  clear hq8
  have HQ9 := Lib.hid (fun w => Times_ok 0 (by decide) p w)
  rw [← HE8.out] at HQ9
  obtain ⟨q10, hq10⟩ : ∃ q : Pt, q = ptimes 8 p := ⟨_, rfl⟩
  have HE10 := Lib.hid hq10
  clear hq10
  have HQ11 := Lib.hid (fun w => Times_ok 8 (by decide) p w)
  rw [← HE10.out] at HQ11
  obtain ⟨q12, hq12⟩ : ∃ q : Pt, q = ptimes LL q10 := ⟨_, rfl⟩
  have HE12 := Lib.hid hq12
  clear hq12
  have HQ13 := Lib.hid (fun w => Times_ok LL (by decide) q10 w)
  rw [← HE12.out] at HQ13
  go_enter Try.func8, Try.ntmps8
  go_upto_region 1 with fail
  generalize hW1 : World.alloc _ _ = W1
  obtain ⟨N, hN⟩ : ∃ n, w.heap.size = n := ⟨_, rfl⟩
  have HX0 := Lib.hid (show CT W1 N 23 (PB (pN p)) by subst hW1; rw [← hN]; exact (allocs1_at w _))
  have HB := Lib.hid (show Below N w W1 by subst hW1; rw [← hN]; exact allocs1_below w _)
  have HN := Lib.hid hN
  rw [hN]
  clear hW1 hN
  refine wp_region_seq 1 ?_
  simp only [List.take_succ_cons, List.take_zero, List.drop_succ_cons, List.drop_zero]
  refine upW_call (by rfl) (by rfl) (.bool true) _ rfl (by simp) (fun p => ?_) ?_
  · go_big_quiet_op
    exact ⟨_, fun q => Calls.ext_of (awake9_any q.x), rfl⟩
  simp only [Act.put, List.setIfInBounds_toArray, List.set]
  refine upW_nil (fun wr1 hbr1 => ?_)
  replace HX0 := Lib.hid (HX0.out.ext hbr1)
  replace HB := Lib.hid (HB.out.trans (hbr1.mono (show N ≤ _ by have := HB.out.size; have := HN.out; omega)))
  clear hbr1
  go_upto_region 3 with fail
  refine wp_region_seq 1 ?_
  simp only [List.take_succ_cons, List.take_zero, List.drop_succ_cons, List.drop_zero]
  refine upW_val (by rfl) (by rfl) (by rfl) (fun K hK => quiet_load_ct _ _ rfl N rfl 23 (PB (pN p)) 32 (PB_rw (pN p)) _ HX0.out Try.underlying23 rfl (by kernel_rfl) (hK _ ?_))
  simp only [Act.put, List.setIfInBounds_toArray, List.set]
  refine upW_nil (fun wr2 hbr2 => ?_)
  replace HX0 := Lib.hid (HX0.out.ext hbr2)
  replace HB := Lib.hid (HB.out.trans (hbr2.mono (show N ≤ _ by have := HB.out.size; have := HN.out; omega)))
  clear hbr2
  refine wpList_new1 rfl 24 rfl (PB 0) zPt rfl _ _ rfl rfl (PB (pN p)) 32 (PB_rw (pN p)) (PB_rw 0).size (by kernel_rfl) rfl rfl (fun B3 wr3 hB3 hbr3 hCB3 => ?_)
  have HB3 := Lib.hid hCB3
  have hlB3X0 : N < B3 := by rw [← hB3]; exact HX0.out.lt
  have hNB3 : N ≤ B3 := by rw [← hB3]; have := HB.out.size; have := HN.out; omega
  clear hB3 hCB3
  simp only [Act.put, List.setIfInBounds_toArray, List.set]
  replace HX0 := Lib.hid (HX0.out.ext hbr3)
  replace HB := Lib.hid (HB.out.trans (hbr3.mono (show N ≤ _ by have := HB.out.size; have := HN.out; omega)))
  clear hbr3
  go_upto_region 4 with fail
  refine wp_region_seq 6 ?_
  simp only [List.take_succ_cons, List.take_zero, List.drop_succ_cons, List.drop_zero]
  refine upW_late (by rfl) (.agg (PB 1)) (fun w => run_built _ _ _ _ rfl _ (by kernel_rfl) w) ?_
  simp only [Act.put, List.setIfInBounds_toArray, List.set]
  refine upW_val (by rfl) (by rfl) (by rfl) (fun K hK => quiet_load_ct _ _ rfl B3 rfl 24 (PB (pN p)) 32 (PB_rw (pN p)) _ HB3.out Try.underlying24 rfl (by kernel_rfl) (hK _ ?_))
  simp only [Act.put, List.setIfInBounds_toArray, List.set]
  refine upW_call (by rfl) (by rfl) (.tuple #[.agg (PB (pN q1)), .bool true]) _ rfl (by simp) (fun p => ?_) ?_
  · go_big_quiet_op
    exact ⟨_, fun q => Calls.ext_of (HQ2.out q.x), rfl⟩
  simp only [Act.put, List.setIfInBounds_toArray, List.set]
  refine upW_val (by rfl) (by rfl) (by rfl) ?_
  intro K hK
  go_big_quiet_op
  refine hK _ ?_
  refine upW_late (by rfl) (.agg (PB (pN q1))) (fun _ => rfl) ?_
  simp only [Act.put, List.setIfInBounds_toArray, List.set]
  refine upW_late (by rfl) (.bool true) (fun _ => rfl) ?_
  simp only [Act.put, List.setIfInBounds_toArray, List.set]
  refine upW_nil (fun wr4 hbr4 => ?_)
  replace HX0 := Lib.hid (HX0.out.ext hbr4)
  replace HB3 := Lib.hid (HB3.out.ext hbr4)
  replace HB := Lib.hid (HB.out.trans (hbr4.mono (show N ≤ _ by have := HB.out.size; have := HN.out; omega)))
  clear hbr4
  refine wpList_new1 rfl 24 rfl (PB 0) zPt rfl _ _ rfl rfl (PB (pN q1)) 32 (PB_rw (pN q1)) (PB_rw 0).size (by kernel_rfl) rfl rfl (fun B5 wr5 hB5 hbr5 hCB5 => ?_)
  have HB5 := Lib.hid hCB5
  have hlB5X0 : N < B5 := by rw [← hB5]; exact HX0.out.lt
  have hlB5B3 : B3 < B5 := by rw [← hB5]; exact HB3.out.lt
  have hNB5 : N ≤ B5 := by rw [← hB5]; have := HB.out.size; have := HN.out; omega
  clear hB5 hCB5
  simp only [Act.put, List.setIfInBounds_toArray, List.set]
  replace HX0 := Lib.hid (HX0.out.ext hbr5)
  replace HB3 := Lib.hid (HB3.out.ext hbr5)
  replace HB := Lib.hid (HB.out.trans (hbr5.mono (show N ≤ _ by have := HB.out.size; have := HN.out; omega)))
  clear hbr5
  go_upto_region 5 with fail
  refine wp_region_seq 2 ?_
  simp only [List.take_succ_cons, List.take_zero, List.drop_succ_cons, List.drop_zero]
  refine upW_val (by rfl) (by rfl) (by rfl) (fun K hK => quiet_load_ct _ _ rfl B3 rfl 24 (PB (pN p)) 32 (PB_rw (pN p)) _ HB3.out Try.underlying24 rfl (by kernel_rfl) (hK _ ?_))
  simp only [Act.put, List.setIfInBounds_toArray, List.set]
  refine upW_call (by rfl) (by rfl) (.bool true) _ rfl (by simp) (fun p => ?_) ?_
  · go_big_quiet_op
    exact ⟨_, fun q => Calls.ext_of (HQ3.out q.x), rfl⟩
  simp only [Act.put, List.setIfInBounds_toArray, List.set]
  refine upW_nil (fun wr6 hbr6 => ?_)
  replace HX0 := Lib.hid (HX0.out.ext hbr6)
  replace HB3 := Lib.hid (HB3.out.ext hbr6)
  replace HB5 := Lib.hid (HB5.out.ext hbr6)
  replace HB := Lib.hid (HB.out.trans (hbr6.mono (show N ≤ _ by have := HB.out.size; have := HN.out; omega)))
  clear hbr6
  go_upto_region 7 with fail
  refine wp_region_seq 6 ?_
  simp only [List.take_succ_cons, List.take_zero, List.drop_succ_cons, List.drop_zero]
  refine upW_late (by rfl) (.agg (PB 2)) (fun w => run_built _ _ _ _ rfl _ (by kernel_rfl) w) ?_
  simp only [Act.put, List.setIfInBounds_toArray, List.set]
  refine upW_val (by rfl) (by rfl) (by rfl) (fun K hK => quiet_load_ct _ _ rfl B3 rfl 24 (PB (pN p)) 32 (PB_rw (pN p)) _ HB3.out Try.underlying24 rfl (by kernel_rfl) (hK _ ?_))
  simp only [Act.put, List.setIfInBounds_toArray, List.set]
  refine upW_call (by rfl) (by rfl) (.tuple #[.agg (PB (pN q4)), .bool true]) _ rfl (by simp) (fun p => ?_) ?_
  · go_big_quiet_op
    exact ⟨_, fun q => Calls.ext_of (HQ5.out q.x), rfl⟩
  simp only [Act.put, List.setIfInBounds_toArray, List.set]
  refine upW_val (by rfl) (by rfl) (by rfl) ?_
  intro K hK
  go_big_quiet_op
  refine hK _ ?_
  refine upW_late (by rfl) (.agg (PB (pN q4))) (fun _ => rfl) ?_
  simp only [Act.put, List.setIfInBounds_toArray, List.set]
  refine upW_late (by rfl) (.bool true) (fun _ => rfl) ?_
  simp only [Act.put, List.setIfInBounds_toArray, List.set]
  refine upW_nil (fun wr7 hbr7 => ?_)
  replace HX0 := Lib.hid (HX0.out.ext hbr7)
  replace HB3 := Lib.hid (HB3.out.ext hbr7)
  replace HB5 := Lib.hid (HB5.out.ext hbr7)
  replace HB := Lib.hid (HB.out.trans (hbr7.mono (show N ≤ _ by have := HB.out.size; have := HN.out; omega)))
  clear hbr7
  refine wpList_new1 rfl 24 rfl (PB 0) zPt rfl _ _ rfl rfl (PB (pN q4)) 32 (PB_rw (pN q4)) (PB_rw 0).size (by kernel_rfl) rfl rfl (fun B8 wr8 hB8 hbr8 hCB8 => ?_)
  have HB8 := Lib.hid hCB8
  have hlB8X0 : N < B8 := by rw [← hB8]; exact HX0.out.lt
  have hlB8B3 : B3 < B8 := by rw [← hB8]; exact HB3.out.lt
  have hlB8B5 : B5 < B8 := by rw [← hB8]; exact HB5.out.lt
  have hNB8 : N ≤ B8 := by rw [← hB8]; have := HB.out.size; have := HN.out; omega
  clear hB8 hCB8
  simp only [Act.put, List.setIfInBounds_toArray, List.set]
  replace HX0 := Lib.hid (HX0.out.ext hbr8)
  replace HB3 := Lib.hid (HB3.out.ext hbr8)
  replace HB5 := Lib.hid (HB5.out.ext hbr8)
  replace HB := Lib.hid (HB.out.trans (hbr8.mono (show N ≤ _ by have := HB.out.size; have := HN.out; omega)))
  clear hbr8
  go_upto_region 8 with fail
  refine wp_region_seq 6 ?_
  simp only [List.take_succ_cons, List.take_zero, List.drop_succ_cons, List.drop_zero]
  refine upW_val (by rfl) (by rfl) (by rfl) (fun K hK => quiet_load_ct _ _ rfl B3 rfl 24 (PB (pN p)) 32 (PB_rw (pN p)) _ HB3.out Try.underlying24 rfl (by kernel_rfl) (hK _ ?_))
  simp only [Act.put, List.setIfInBounds_toArray, List.set]
  refine upW_val (by rfl) (by rfl) (by rfl) (fun K hK => quiet_load_ct _ _ rfl B3 rfl 24 (PB (pN p)) 32 (PB_rw (pN p)) _ HB3.out Try.underlying24 rfl (by kernel_rfl) (hK _ ?_))
  simp only [Act.put, List.setIfInBounds_toArray, List.set]
  refine upW_call (by rfl) (by rfl) (.tuple #[.agg (PB (pN q6)), .bool true]) _ rfl (by simp) (fun p => ?_) ?_
  · go_big_quiet_op
    exact ⟨_, fun q => Calls.ext_of (HQ7.out q.x), rfl⟩
  simp only [Act.put, List.setIfInBounds_toArray, List.set]
  refine upW_val (by rfl) (by rfl) (by rfl) ?_
  intro K hK
  go_big_quiet_op
  refine hK _ ?_
  refine upW_late (by rfl) (.agg (PB (pN q6))) (fun _ => rfl) ?_
  simp only [Act.put, List.setIfInBounds_toArray, List.set]
  refine upW_late (by rfl) (.bool true) (fun _ => rfl) ?_
  simp only [Act.put, List.setIfInBounds_toArray, List.set]
  refine upW_nil (fun wr9 hbr9 => ?_)
  replace HX0 := Lib.hid (HX0.out.ext hbr9)
  replace HB3 := Lib.hid (HB3.out.ext hbr9)
  replace HB5 := Lib.hid (HB5.out.ext hbr9)
  replace HB8 := Lib.hid (HB8.out.ext hbr9)
  replace HB := Lib.hid (HB.out.trans (hbr9.mono (show N ≤ _ by have := HB.out.size; have := HN.out; omega)))
  clear hbr9
  refine wpList_new1 rfl 24 rfl (PB 0) zPt rfl _ _ rfl rfl (PB (pN q6)) 32 (PB_rw (pN q6)) (PB_rw 0).size (by kernel_rfl) rfl rfl (fun B10 wr10 hB10 hbr10 hCB10 => ?_)
  have HB10 := Lib.hid hCB10
  have hlB10X0 : N < B10 := by rw [← hB10]; exact HX0.out.lt
  have hlB10B3 : B3 < B10 := by rw [← hB10]; exact HB3.out.lt
  have hlB10B5 : B5 < B10 := by rw [← hB10]; exact HB5.out.lt
  have hlB10B8 : B8 < B10 := by rw [← hB10]; exact HB8.out.lt
  have hNB10 : N ≤ B10 := by rw [← hB10]; have := HB.out.size; have := HN.out; omega
  clear hB10 hCB10
  simp only [Act.put, List.setIfInBounds_toArray, List.set]
  replace HX0 := Lib.hid (HX0.out.ext hbr10)
  replace HB3 := Lib.hid (HB3.out.ext hbr10)
  replace HB5 := Lib.hid (HB5.out.ext hbr10)
  replace HB8 := Lib.hid (HB8.out.ext hbr10)
  replace HB := Lib.hid (HB.out.trans (hbr10.mono (show N ≤ _ by have := HB.out.size; have := HN.out; omega)))
  clear hbr10
  go_upto_region 9 with fail
  refine wp_region_seq 6 ?_
  simp only [List.take_succ_cons, List.take_zero, List.drop_succ_cons, List.drop_zero]
  refine upW_late (by rfl) (.agg (PB 0)) (fun w => run_built _ _ _ _ rfl _ (by kernel_rfl) w) ?_
  simp only [Act.put, List.setIfInBounds_toArray, List.set]
  refine upW_val (by rfl) (by rfl) (by rfl) (fun K hK => quiet_load_ct _ _ rfl B3 rfl 24 (PB (pN p)) 32 (PB_rw (pN p)) _ HB3.out Try.underlying24 rfl (by kernel_rfl) (hK _ ?_))
  simp only [Act.put, List.setIfInBounds_toArray, List.set]
  refine upW_call (by rfl) (by rfl) (.tuple #[.agg (PB (pN q8)), .bool true]) _ rfl (by simp) (fun p => ?_) ?_
  · go_big_quiet_op
    exact ⟨_, fun q => Calls.ext_of (HQ9.out q.x), rfl⟩
  simp only [Act.put, List.setIfInBounds_toArray, List.set]
  refine upW_val (by rfl) (by rfl) (by rfl) ?_
  intro K hK
  go_big_quiet_op
  refine hK _ ?_
  refine upW_late (by rfl) (.agg (PB (pN q8))) (fun _ => rfl) ?_
  simp only [Act.put, List.setIfInBounds_toArray, List.set]
  refine upW_late (by rfl) (.bool true) (fun _ => rfl) ?_
  simp only [Act.put, List.setIfInBounds_toArray, List.set]
  refine upW_nil (fun wr11 hbr11 => ?_)
  replace HX0 := Lib.hid (HX0.out.ext hbr11)
  replace HB3 := Lib.hid (HB3.out.ext hbr11)
  replace HB5 := Lib.hid (HB5.out.ext hbr11)
  replace HB8 := Lib.hid (HB8.out.ext hbr11)
  replace HB10 := Lib.hid (HB10.out.ext hbr11)
  replace HB := Lib.hid (HB.out.trans (hbr11.mono (show N ≤ _ by have := HB.out.size; have := HN.out; omega)))
  clear hbr11
  refine wpList_new1 rfl 24 rfl (PB 0) zPt rfl _ _ rfl rfl (PB (pN q8)) 32 (PB_rw (pN q8)) (PB_rw 0).size (by kernel_rfl) rfl rfl (fun B12 wr12 hB12 hbr12 hCB12 => ?_)
  have HB12 := Lib.hid hCB12
  have hlB12X0 : N < B12 := by rw [← hB12]; exact HX0.out.lt
  have hlB12B3 : B3 < B12 := by rw [← hB12]; exact HB3.out.lt
  have hlB12B5 : B5 < B12 := by rw [← hB12]; exact HB5.out.lt
  have hlB12B8 : B8 < B12 := by rw [← hB12]; exact HB8.out.lt
  have hlB12B10 : B10 < B12 := by rw [← hB12]; exact HB10.out.lt
  have hNB12 : N ≤ B12 := by rw [← hB12]; have := HB.out.size; have := HN.out; omega
  clear hB12 hCB12
  simp only [Act.put, List.setIfInBounds_toArray, List.set]
  replace HX0 := Lib.hid (HX0.out.ext hbr12)
  replace HB3 := Lib.hid (HB3.out.ext hbr12)
  replace HB5 := Lib.hid (HB5.out.ext hbr12)
  replace HB8 := Lib.hid (HB8.out.ext hbr12)
  replace HB10 := Lib.hid (HB10.out.ext hbr12)
  replace HB := Lib.hid (HB.out.trans (hbr12.mono (show N ≤ _ by have := HB.out.size; have := HN.out; omega)))
  clear hbr12
  go_upto_region 10 with fail
  refine wp_region_seq 6 ?_
  simp only [List.take_succ_cons, List.take_zero, List.drop_succ_cons, List.drop_zero]
  refine upW_late (by rfl) (.agg (PB 8)) (fun w => run_built _ _ _ _ rfl _ (by kernel_rfl) w) ?_
  simp only [Act.put, List.setIfInBounds_toArray, List.set]
  refine upW_val (by rfl) (by rfl) (by rfl) (fun K hK => quiet_load_ct _ _ rfl B3 rfl 24 (PB (pN p)) 32 (PB_rw (pN p)) _ HB3.out Try.underlying24 rfl (by kernel_rfl) (hK _ ?_))
  simp only [Act.put, List.setIfInBounds_toArray, List.set]
  refine upW_call (by rfl) (by rfl) (.tuple #[.agg (PB (pN q10)), .bool true]) _ rfl (by simp) (fun p => ?_) ?_
  · go_big_quiet_op
    exact ⟨_, fun q => Calls.ext_of (HQ11.out q.x), rfl⟩
  simp only [Act.put, List.setIfInBounds_toArray, List.set]
  refine upW_val (by rfl) (by rfl) (by rfl) ?_
  intro K hK
  go_big_quiet_op
  refine hK _ ?_
  refine upW_late (by rfl) (.agg (PB (pN q10))) (fun _ => rfl) ?_
  simp only [Act.put, List.setIfInBounds_toArray, List.set]
  refine upW_late (by rfl) (.bool true) (fun _ => rfl) ?_
  simp only [Act.put, List.setIfInBounds_toArray, List.set]
  refine upW_nil (fun wr13 hbr13 => ?_)
  replace HX0 := Lib.hid (HX0.out.ext hbr13)
  replace HB3 := Lib.hid (HB3.out.ext hbr13)
  replace HB5 := Lib.hid (HB5.out.ext hbr13)
  replace HB8 := Lib.hid (HB8.out.ext hbr13)
  replace HB10 := Lib.hid (HB10.out.ext hbr13)
  replace HB12 := Lib.hid (HB12.out.ext hbr13)
  replace HB := Lib.hid (HB.out.trans (hbr13.mono (show N ≤ _ by have := HB.out.size; have := HN.out; omega)))
  clear hbr13
  refine wpList_new1 rfl 24 rfl (PB 0) zPt rfl _ _ rfl rfl (PB (pN q10)) 32 (PB_rw (pN q10)) (PB_rw 0).size (by kernel_rfl) rfl rfl (fun B14 wr14 hB14 hbr14 hCB14 => ?_)
  have HB14 := Lib.hid hCB14
  have hlB14X0 : N < B14 := by rw [← hB14]; exact HX0.out.lt
  have hlB14B3 : B3 < B14 := by rw [← hB14]; exact HB3.out.lt
  have hlB14B5 : B5 < B14 := by rw [← hB14]; exact HB5.out.lt
  have hlB14B8 : B8 < B14 := by rw [← hB14]; exact HB8.out.lt
  have hlB14B10 : B10 < B14 := by rw [← hB14]; exact HB10.out.lt
  have hlB14B12 : B12 < B14 := by rw [← hB14]; exact HB12.out.lt
  have hNB14 : N ≤ B14 := by rw [← hB14]; have := HB.out.size; have := HN.out; omega
  clear hB14 hCB14
  simp only [Act.put, List.setIfInBounds_toArray, List.set]
  replace HX0 := Lib.hid (HX0.out.ext hbr14)
  replace HB3 := Lib.hid (HB3.out.ext hbr14)
  replace HB5 := Lib.hid (HB5.out.ext hbr14)
  replace HB8 := Lib.hid (HB8.out.ext hbr14)
  replace HB10 := Lib.hid (HB10.out.ext hbr14)
  replace HB12 := Lib.hid (HB12.out.ext hbr14)
  replace HB := Lib.hid (HB.out.trans (hbr14.mono (show N ≤ _ by have := HB.out.size; have := HN.out; omega)))
  clear hbr14
  go_upto_region 11 with fail
  refine wp_region_whole [0, 1, 2, 3, 4, 5, 8] [⟨6, _, 24, (PB 0), 14, 7, _, 24, 63, (PB (pN q12))⟩] [7, 6] (by kernel_rfl) (by kernel_rfl) (List.forall_mem_cons.2 ⟨⟨⟨rfl, rfl, rfl, fun a w => alloc_run _ _ zPt a _ rfl w⟩, rfl, rfl, rfl, rfl, (PB_rw (pN q12)).info (by kernel_rfl), (PB_rw 0).same (PB_rw (pN q12)), (PB_rw (pN q12)).one⟩, (List.forall_mem_nil _)⟩) rfl ?_
  simp only [List.foldl, List.eraseIdx_cons_succ, List.eraseIdx_cons_zero]
  refine upW_call (by rfl) (by rfl) (.agg (PB LL)) _ rfl (by simp) (fun p => ?_) ?_
  · go_big_quiet_op
    exact ⟨_, fun q => Calls.ext_of (ell_any q.x), rfl⟩
  simp only [Act.put, List.setIfInBounds_toArray, List.set]
  refine upW_val (by rfl) (by rfl) (by rfl) (fun K hK => quiet_load_ct _ _ rfl B14 rfl 24 (PB (pN q10)) 32 (PB_rw (pN q10)) _ HB14.out Try.underlying24 rfl (by kernel_rfl) (hK _ ?_))
  simp only [Act.put, List.setIfInBounds_toArray, List.set]
  refine upW_call (by rfl) (by rfl) (.tuple #[.agg (PB (pN q12)), .bool true]) _ rfl (by simp) (fun p => ?_) ?_
  · go_big_quiet_op
    exact ⟨_, fun q => Calls.ext_of (HQ13.out q.x), rfl⟩
  simp only [Act.put, List.setIfInBounds_toArray, List.set]
  refine upW_val (by rfl) (by rfl) (by rfl) ?_
  intro K hK
  go_big_quiet_op
  refine hK _ ?_
  refine upW_late (by rfl) (.agg (PB (pN q12))) (fun _ => rfl) ?_
  simp only [Act.put, List.setIfInBounds_toArray, List.set]
  refine upW_late (by rfl) (.bool true) (fun _ => rfl) ?_
  simp only [Act.put, List.setIfInBounds_toArray, List.set]
  refine upW_val (by rfl) (by rfl) (by rfl) ?_
  intro K hK
  go_big_quiet_op
  refine hK _ ?_
  refine upW_nil ⟨(List.forall_mem_cons.2 ⟨rfl, (List.forall_mem_nil _)⟩), fun M wr15 hM hne hbr15 => ?_⟩
  have hm0 := hM _ (List.mem_cons_self ..)
  clear hM hne
  simp only [List.foldr, pS, Act.put, List.setIfInBounds_toArray, List.set]
  obtain ⟨B15x0, hB15x0⟩ : ∃ m, M 6 = m := ⟨_, rfl⟩
  have HB15x0 := Lib.hid (show CT wr15 B15x0 24 (PB (pN q12)) by rw [← hB15x0]; exact hm0.2)
  have hlB15x0X0 : N < B15x0 := by rw [← hB15x0]; exact Nat.lt_of_lt_of_le HX0.out.lt hm0.1
  have hlB15x0B3 : B3 < B15x0 := by rw [← hB15x0]; exact Nat.lt_of_lt_of_le HB3.out.lt hm0.1
  have hlB15x0B5 : B5 < B15x0 := by rw [← hB15x0]; exact Nat.lt_of_lt_of_le HB5.out.lt hm0.1
  have hlB15x0B8 : B8 < B15x0 := by rw [← hB15x0]; exact Nat.lt_of_lt_of_le HB8.out.lt hm0.1
  have hlB15x0B10 : B10 < B15x0 := by rw [← hB15x0]; exact Nat.lt_of_lt_of_le HB10.out.lt hm0.1
  have hlB15x0B12 : B12 < B15x0 := by rw [← hB15x0]; exact Nat.lt_of_lt_of_le HB12.out.lt hm0.1
  have hlB15x0B14 : B14 < B15x0 := by rw [← hB15x0]; exact Nat.lt_of_lt_of_le HB14.out.lt hm0.1
  have hNB15x0 : N ≤ B15x0 := by rw [← hB15x0]; exact Nat.le_trans (by have := HB.out.size; have := HN.out; omega) hm0.1
  rw [hB15x0]
  clear hm0 hB15x0
  replace HX0 := Lib.hid (HX0.out.ext hbr15)
  replace HB3 := Lib.hid (HB3.out.ext hbr15)
  replace HB5 := Lib.hid (HB5.out.ext hbr15)
  replace HB8 := Lib.hid (HB8.out.ext hbr15)
  replace HB10 := Lib.hid (HB10.out.ext hbr15)
  replace HB12 := Lib.hid (HB12.out.ext hbr15)
  replace HB14 := Lib.hid (HB14.out.ext hbr15)
  replace HB := Lib.hid (HB.out.trans (hbr15.mono (show N ≤ _ by have := HB.out.size; have := HN.out; omega)))
  clear hbr15
  go_upto_region 12 with fail
  refine wp_region_upT 36 _ (by kernel_rfl) (by kernel_rfl) rfl (by kernel_rfl) (fun _ _ dst _ _ h => by cases dst <;> exact h) ?_
  simp only [List.take_succ_cons, List.take_zero, List.drop_succ_cons, List.drop_zero]
  refine upW_val (by rfl) (by rfl) (by rfl) ?_
  intro K hK
  go_big_quiet_op
  refine hK _ ?_
  refine upW_val (by rfl) (by rfl) (by rfl) ?_
  intro K hK
  go_big_quiet_op
  refine hK _ ?_
  refine upW_val (by rfl) (by rfl) (by rfl) ?_
  intro K hK
  go_big_quiet_op
  refine hK _ ?_
  refine upW_val (by rfl) (by rfl) (by rfl) ?_
  intro K hK
  go_big_quiet_op
  refine hK _ ?_
  refine upW_val (by rfl) (by rfl) (by rfl) ?_
  intro K hK
  go_big_quiet_op
  refine hK _ ?_
  refine upW_val (by rfl) (by rfl) (by rfl) ?_
  intro K hK
  go_big_quiet_op
  refine hK _ ?_
  refine upW_val (by rfl) (by rfl) (by rfl) ?_
  intro K hK
  go_big_quiet_op
  refine hK _ ?_
  refine upW_val (by rfl) (by rfl) (by rfl) ?_
  intro K hK
  go_big_quiet_op
  refine hK _ ?_
  refine upW_val (by rfl) (by rfl) (by rfl) ?_
  intro K hK
  go_big_quiet_op
  refine hK _ ?_
  refine upW_val (by rfl) (by rfl) (by rfl) ?_
  intro K hK
  go_big_quiet_op
  refine hK _ ?_
  refine upW_val (by rfl) (by rfl) (by rfl) ?_
  intro K hK
  go_big_quiet_op
  refine hK _ ?_
  refine upW_val (by rfl) (by rfl) (by rfl) ?_
  intro K hK
  go_big_quiet_op
  refine hK _ ?_
  refine upW_val (by rfl) (by rfl) (by rfl) ?_
  intro K hK
  go_big_quiet_op
  refine hK _ ?_
  refine upW_val (by rfl) (by rfl) (by rfl) ?_
  intro K hK
  go_big_quiet_op
  refine hK _ ?_
  refine upW_val (by rfl) (by rfl) (by rfl) ?_
  intro K hK
  go_big_quiet_op
  refine hK _ ?_
  refine upW_val (by rfl) (by rfl) (by rfl) ?_
  intro K hK
  go_big_quiet_op
  refine hK _ ?_
  refine upW_val (by rfl) (by rfl) (by rfl) ?_
  intro K hK
  go_big_quiet_op
  refine hK _ ?_
  refine upW_val (by rfl) (by rfl) (by rfl) (fun K hK => quiet_load_ct _ _ rfl B5 rfl 24 (PB (pN q1)) 32 (PB_rw (pN q1)) _ HB5.out Try.underlying24 rfl (by kernel_rfl) (hK _ ?_))
  simp only [Act.put, List.setIfInBounds_toArray, List.set]
  refine upW_val (by rfl) (by rfl) (by rfl) (fun K hK => quiet_load_ct _ _ rfl B3 rfl 24 (PB (pN p)) 32 (PB_rw (pN p)) _ HB3.out Try.underlying24 rfl (by kernel_rfl) (hK _ ?_))
  simp only [Act.put, List.setIfInBounds_toArray, List.set]
  refine upW_late (by rfl) (.bool true) (fun w => run_eqP _ _ _ _ 24 rfl Try.underlying24 (pN q1) (pN p) rfl rfl (pN_lt q1) (pN_lt p) (by kernel_rfl) true (decide_eq_true (congrArg pN (by simp only [HE1.out, HE4.out, HE6.out, HE8.out, HE10.out, HE12.out]; exact ptimes_one p))) w) ?_
  simp only [Act.put, List.setIfInBounds_toArray, List.set]
  refine upW_val (by rfl) (by rfl) (by rfl) ?_
  intro K hK
  go_big_quiet_op
  refine hK _ ?_
  refine upW_val (by rfl) (by rfl) (by rfl) ?_
  intro K hK
  go_big_quiet_op
  refine hK _ ?_
  refine upW_val (by rfl) (by rfl) (by rfl) (fun K hK => quiet_load_ct _ _ rfl B8 rfl 24 (PB (pN q4)) 32 (PB_rw (pN q4)) _ HB8.out Try.underlying24 rfl (by kernel_rfl) (hK _ ?_))
  simp only [Act.put, List.setIfInBounds_toArray, List.set]
  refine upW_val (by rfl) (by rfl) (by rfl) (fun K hK => quiet_load_ct _ _ rfl B10 rfl 24 (PB (pN q6)) 32 (PB_rw (pN q6)) _ HB10.out Try.underlying24 rfl (by kernel_rfl) (hK _ ?_))
  simp only [Act.put, List.setIfInBounds_toArray, List.set]
  refine upW_late (by rfl) (.bool true) (fun w => run_eqP _ _ _ _ 24 rfl Try.underlying24 (pN q4) (pN q6) rfl rfl (pN_lt q4) (pN_lt q6) (by kernel_rfl) true (decide_eq_true (congrArg pN (by simp only [HE1.out, HE4.out, HE6.out, HE8.out, HE10.out, HE12.out]; exact ptimes_two p))) w) ?_
  simp only [Act.put, List.setIfInBounds_toArray, List.set]
  refine upW_val (by rfl) (by rfl) (by rfl) ?_
  intro K hK
  go_big_quiet_op
  refine hK _ ?_
  refine upW_val (by rfl) (by rfl) (by rfl) ?_
  intro K hK
  go_big_quiet_op
  refine hK _ ?_
  refine upW_val (by rfl) (by rfl) (by rfl) (fun K hK => quiet_load_ct _ _ rfl B12 rfl 24 (PB (pN q8)) 32 (PB_rw (pN q8)) _ HB12.out Try.underlying24 rfl (by kernel_rfl) (hK _ ?_))
  simp only [Act.put, List.setIfInBounds_toArray, List.set]
  refine upW_call (by rfl) (by rfl) (.agg (PB (pN pzero))) _ rfl (by simp) (fun p => ?_) ?_
  · go_big_quiet_op
    exact ⟨_, fun q => Calls.ext_of (Zero_pt q.x), rfl⟩
  simp only [Act.put, List.setIfInBounds_toArray, List.set]
  refine upW_late (by rfl) (.bool true) (fun w => run_eqP _ _ _ _ 24 rfl Try.underlying24 (pN q8) (pN pzero) rfl rfl (pN_lt q8) (pN_lt pzero) (by kernel_rfl) true (decide_eq_true (congrArg pN (by simp only [HE1.out, HE4.out, HE6.out, HE8.out, HE10.out, HE12.out]; exact (show ptimes 0 p = pzero from rfl)))) w) ?_
  simp only [Act.put, List.setIfInBounds_toArray, List.set]
  refine upW_val (by rfl) (by rfl) (by rfl) ?_
  intro K hK
  go_big_quiet_op
  refine hK _ ?_
  refine upW_val (by rfl) (by rfl) (by rfl) ?_
  intro K hK
  go_big_quiet_op
  refine hK _ ?_
  refine upW_val (by rfl) (by rfl) (by rfl) (fun K hK => quiet_load_ct _ _ rfl B15x0 rfl 24 (PB (pN q12)) 32 (PB_rw (pN q12)) _ HB15x0.out Try.underlying24 rfl (by kernel_rfl) (hK _ ?_))
  simp only [Act.put, List.setIfInBounds_toArray, List.set]
  refine upW_call (by rfl) (by rfl) (.agg (PB (pN pzero))) _ rfl (by simp) (fun p => ?_) ?_
  · go_big_quiet_op
    exact ⟨_, fun q => Calls.ext_of (Zero_pt q.x), rfl⟩
  simp only [Act.put, List.setIfInBounds_toArray, List.set]
  refine upW_late (by rfl) (.bool true) (fun w => run_eqP _ _ _ _ 24 rfl Try.underlying24 (pN q12) (pN pzero) rfl rfl (pN_lt q12) (pN_lt pzero) (by kernel_rfl) true (decide_eq_true (congrArg pN (by simp only [HE1.out, HE4.out, HE6.out, HE8.out, HE10.out, HE12.out]; exact all8L p))) w) ?_
  simp only [Act.put, List.setIfInBounds_toArray, List.set]
  refine upW_val (by rfl) (by rfl) (by rfl) ?_
  intro K hK
  go_big_quiet_op
  refine hK _ ?_
  refine upW_nil (fun wr16 hbr16 => ?_)
  replace HX0 := Lib.hid (HX0.out.ext hbr16)
  replace HB3 := Lib.hid (HB3.out.ext hbr16)
  replace HB5 := Lib.hid (HB5.out.ext hbr16)
  replace HB8 := Lib.hid (HB8.out.ext hbr16)
  replace HB10 := Lib.hid (HB10.out.ext hbr16)
  replace HB12 := Lib.hid (HB12.out.ext hbr16)
  replace HB14 := Lib.hid (HB14.out.ext hbr16)
  replace HB15x0 := Lib.hid (HB15x0.out.ext hbr16)
  replace HB := Lib.hid (HB.out.trans (hbr16.mono (show N ≤ _ by have := HB.out.size; have := HN.out; omega)))
  clear hbr16
  go_wp2
  go_ret
  exact ⟨rfl, by rw [HN.out]; exact HB.out⟩
set_option maxRecDepth 100000 in
set_option maxHeartbeats 1000000 in
theorem curveEight_no (n : Nat) (hn : n < 115792089237316195423570985008687907853269984665640564039457584007913129639936) (gn : ∀ p : Pt, pN p ≠ n) (w : World) :
    Calls Try.prog 8 #[.agg (PB n)] w fun e w' => e = .returned (.bool true) ∧ Below w.heap.size w w' := by
  have HLn := Lib.hid hn
  have HNn := Lib.hid gn
  clear hn gn
  have HQ1 := Lib.hid (fun w => Times_no 1 (by decide) n HLn.out HNn.out w)
  have HQ2 := Lib.hid (fun w => Good_no n HLn.out HNn.out w)
  go_enter Try.func8, Try.ntmps8
  go_upto_region 1 with fail
  generalize hW1 : World.alloc _ _ = W1
  obtain ⟨N, hN⟩ : ∃ n, w.heap.size = n := ⟨_, rfl⟩
  have HX0 := Lib.hid (show CT W1 N 23 (PB n) by subst hW1; rw [← hN]; exact (allocs1_at w _))
  have HB := Lib.hid (show Below N w W1 by subst hW1; rw [← hN]; exact allocs1_below w _)
  have HN := Lib.hid hN
  rw [hN]
  clear hW1 hN
  refine wp_region_seq 1 ?_
  simp only [List.take_succ_cons, List.take_zero, List.drop_succ_cons, List.drop_zero]
  refine upW_call (by rfl) (by rfl) (.bool true) _ rfl (by simp) (fun p => ?_) ?_
  · go_big_quiet_op
    exact ⟨_, fun q => Calls.ext_of (awake9_any q.x), rfl⟩
  simp only [Act.put, List.setIfInBounds_toArray, List.set]
  refine upW_nil (fun wr1 hbr1 => ?_)
  replace HX0 := Lib.hid (HX0.out.ext hbr1)
  replace HB := Lib.hid (HB.out.trans (hbr1.mono (show N ≤ _ by have := HB.out.size; have := HN.out; omega)))
  clear hbr1
  go_upto_region 3 with fail
  refine wp_region_seq 1 ?_
  simp only [List.take_succ_cons, List.take_zero, List.drop_succ_cons, List.drop_zero]
  refine upW_val (by rfl) (by rfl) (by rfl) (fun K hK => quiet_load_ct _ _ rfl N rfl 23 (PB n) 32 (PB_rw n) _ HX0.out Try.underlying23 rfl (by kernel_rfl) (hK _ ?_))
  simp only [Act.put, List.setIfInBounds_toArray, List.set]
  refine upW_nil (fun wr2 hbr2 => ?_)
  replace HX0 := Lib.hid (HX0.out.ext hbr2)
  replace HB := Lib.hid (HB.out.trans (hbr2.mono (show N ≤ _ by have := HB.out.size; have := HN.out; omega)))
  clear hbr2
  refine wpList_new1 rfl 24 rfl (PB 0) zPt rfl _ _ rfl rfl (PB n) 32 (PB_rw n) (PB_rw 0).size (by kernel_rfl) rfl rfl (fun B3 wr3 hB3 hbr3 hCB3 => ?_)
  have HB3 := Lib.hid hCB3
  have hlB3X0 : N < B3 := by rw [← hB3]; exact HX0.out.lt
  have hNB3 : N ≤ B3 := by rw [← hB3]; have := HB.out.size; have := HN.out; omega
  clear hB3 hCB3
  simp only [Act.put, List.setIfInBounds_toArray, List.set]
  replace HX0 := Lib.hid (HX0.out.ext hbr3)
  replace HB := Lib.hid (HB.out.trans (hbr3.mono (show N ≤ _ by have := HB.out.size; have := HN.out; omega)))
  clear hbr3
  go_upto_region 4 with fail
  refine wp_region_seq 6 ?_
  simp only [List.take_succ_cons, List.take_zero, List.drop_succ_cons, List.drop_zero]
  refine upW_late (by rfl) (.agg (PB 1)) (fun w => run_built _ _ _ _ rfl _ (by kernel_rfl) w) ?_
  simp only [Act.put, List.setIfInBounds_toArray, List.set]
  refine upW_val (by rfl) (by rfl) (by rfl) (fun K hK => quiet_load_ct _ _ rfl B3 rfl 24 (PB n) 32 (PB_rw n) _ HB3.out Try.underlying24 rfl (by kernel_rfl) (hK _ ?_))
  simp only [Act.put, List.setIfInBounds_toArray, List.set]
  refine upW_call (by rfl) (by rfl) (.tuple #[.agg (PB 0), .bool false]) _ rfl (by simp) (fun p => ?_) ?_
  · go_big_quiet_op
    exact ⟨_, fun q => Calls.ext_of (HQ1.out q.x), rfl⟩
  simp only [Act.put, List.setIfInBounds_toArray, List.set]
  refine upW_val (by rfl) (by rfl) (by rfl) ?_
  intro K hK
  go_big_quiet_op
  refine hK _ ?_
  refine upW_late (by rfl) (.agg (PB 0)) (fun _ => rfl) ?_
  simp only [Act.put, List.setIfInBounds_toArray, List.set]
  refine upW_late (by rfl) (.bool false) (fun _ => rfl) ?_
  simp only [Act.put, List.setIfInBounds_toArray, List.set]
  refine upW_nil (fun wr4 hbr4 => ?_)
  replace HX0 := Lib.hid (HX0.out.ext hbr4)
  replace HB3 := Lib.hid (HB3.out.ext hbr4)
  replace HB := Lib.hid (HB.out.trans (hbr4.mono (show N ≤ _ by have := HB.out.size; have := HN.out; omega)))
  clear hbr4
  refine wpList_new1 rfl 24 rfl (PB 0) zPt rfl _ _ rfl rfl (PB 0) 32 (PB_rw 0) (PB_rw 0).size (by kernel_rfl) rfl rfl (fun B5 wr5 hB5 hbr5 hCB5 => ?_)
  have HB5 := Lib.hid hCB5
  have hlB5X0 : N < B5 := by rw [← hB5]; exact HX0.out.lt
  have hlB5B3 : B3 < B5 := by rw [← hB5]; exact HB3.out.lt
  have hNB5 : N ≤ B5 := by rw [← hB5]; have := HB.out.size; have := HN.out; omega
  clear hB5 hCB5
  simp only [Act.put, List.setIfInBounds_toArray, List.set]
  replace HX0 := Lib.hid (HX0.out.ext hbr5)
  replace HB3 := Lib.hid (HB3.out.ext hbr5)
  replace HB := Lib.hid (HB.out.trans (hbr5.mono (show N ≤ _ by have := HB.out.size; have := HN.out; omega)))
  clear hbr5
  go_upto_region 5 with fail
  refine wp_region_seq 2 ?_
  simp only [List.take_succ_cons, List.take_zero, List.drop_succ_cons, List.drop_zero]
  refine upW_val (by rfl) (by rfl) (by rfl) (fun K hK => quiet_load_ct _ _ rfl B3 rfl 24 (PB n) 32 (PB_rw n) _ HB3.out Try.underlying24 rfl (by kernel_rfl) (hK _ ?_))
  simp only [Act.put, List.setIfInBounds_toArray, List.set]
  refine upW_call (by rfl) (by rfl) (.bool false) _ rfl (by simp) (fun p => ?_) ?_
  · go_big_quiet_op
    exact ⟨_, fun q => Calls.ext_of (HQ2.out q.x), rfl⟩
  simp only [Act.put, List.setIfInBounds_toArray, List.set]
  refine upW_nil (fun wr6 hbr6 => ?_)
  replace HX0 := Lib.hid (HX0.out.ext hbr6)
  replace HB3 := Lib.hid (HB3.out.ext hbr6)
  replace HB5 := Lib.hid (HB5.out.ext hbr6)
  replace HB := Lib.hid (HB.out.trans (hbr6.mono (show N ≤ _ by have := HB.out.size; have := HN.out; omega)))
  clear hbr6
  go_upto_region 6 with fail
  refine wp_region_seq 7 ?_
  simp only [List.take_succ_cons, List.take_zero, List.drop_succ_cons, List.drop_zero]
  refine upW_val (by rfl) (by rfl) (by rfl) ?_
  intro K hK
  go_big_quiet_op
  refine hK _ ?_
  refine upW_val (by rfl) (by rfl) (by rfl) ?_
  intro K hK
  go_big_quiet_op
  refine hK _ ?_
  refine upW_val (by rfl) (by rfl) (by rfl) ?_
  intro K hK
  go_big_quiet_op
  refine hK _ ?_
  refine upW_val (by rfl) (by rfl) (by rfl) (fun K hK => quiet_load_ct _ _ rfl B5 rfl 24 (PB 0) 32 (PB_rw 0) _ HB5.out Try.underlying24 rfl (by kernel_rfl) (hK _ ?_))
  simp only [Act.put, List.setIfInBounds_toArray, List.set]
  refine upW_late (by rfl) (.agg (PB 0)) (fun w => run_built _ _ _ _ rfl _ (by kernel_rfl) w) ?_
  simp only [Act.put, List.setIfInBounds_toArray, List.set]
  refine upW_late (by rfl) (.bool true) (fun w => run_eqP _ _ _ _ 24 rfl Try.underlying24 0 0 rfl rfl (by decide) (by decide) (by kernel_rfl) true (decide_eq_true (by exact rfl)) w) ?_
  simp only [Act.put, List.setIfInBounds_toArray, List.set]
  refine upW_val (by rfl) (by rfl) (by rfl) ?_
  intro K hK
  go_big_quiet_op
  refine hK _ ?_
  refine upW_nil (fun wr7 hbr7 => ?_)
  replace HX0 := Lib.hid (HX0.out.ext hbr7)
  replace HB3 := Lib.hid (HB3.out.ext hbr7)
  replace HB5 := Lib.hid (HB5.out.ext hbr7)
  replace HB := Lib.hid (HB.out.trans (hbr7.mono (show N ≤ _ by have := HB.out.size; have := HN.out; omega)))
  clear hbr7
  go_wp2
  go_ret
  exact ⟨rfl, by rw [HN.out]; exact HB.out⟩
theorem curveEight_true (a : List UInt8) (w : World) (hla : a.length = 32) : Calls Try.prog 8 #[.agg (byteVals a).toArray] w fun e w' => e = .returned (.bool true) ∧ Below w.heap.size w w' := by
  have e : (byteVals a).toArray = PB (le a) := (PB_le hla).symm
  rw [e]
  by_cases h : ∃ p : Pt, pN p = le a
  · obtain ⟨p, hp⟩ := h
    rw [← hp]
    exact curveEight_ok p w
  · exact curveEight_no (le a) (le_32 a hla) (fun p hp => h ⟨p, hp⟩) w
theorem curveEight_own : ownKnob Try.prog.godebug = none := by kernel_rfl

set_option maxRecDepth 100000 in
theorem curveEight_lifted (os : Os) (started : os.Started) (H : Type) (enc : TypeId × Value → H) :
    ReturnsInHanded {} Try.checked os 8 .any (Rows.curveEightSpec.pre6 enc Try.prog Try.f8 Rows.curveEightRow.domain false) (Rows.curveEightSpec.post enc Try.prog Try.f8 false true false false) := by
  refine returnsInHanded_of_change (C := Try.checked) curveEight_own started (by kernel_rfl) Try.func8
    (ChangeSpec.witness6 (enc := enc) (C := Try.checked) false ⟨#[], #[.agg (Array.replicate 32 (.int .u8 0))], []⟩ 8 (by kernel_rfl) (by kernel_rfl) (by kernel_rfl) (by kernel_rfl)) ?_
  intro W base args ds gs before hval0 hW hcnd _
  have hval : ∀ (j : Nat) t v, Try.f8.params[j]? = some t → args[j]? = some v → Value.okWide Try.prog W .any base t v := hval0
  have hW' := hW
  obtain ⟨p, q, hA0, hV, rfl, hfz, hnd⟩ := hW
  have hA : DataW.TrodAll enc Try.prog W 0 (fun _ => true) true Try.f8.params.toList args.toList ds p := hA0
  rw [Try.params8] at hA hval
  obtain ⟨v0, vs0, d0, ds0, p0, q0, hargs, rfl, rfl, h0, r0⟩ := trodAll_cons hA
  obtain ⟨rfl, rfl, rfl⟩ := trodAll_nil r0
  obtain rfl : args = #[v0] := by cases args; simp_all
  obtain ⟨rfl, rfl⟩ := trodVars_none hV
  obtain ⟨a0, hl0, rfl, rfl, rfl⟩ := open_arr8 Try.underlying23 Try.underlying5 (by kernel_rfl) (by kernel_rfl) (hval 0 23 v0 rfl rfl) h0
  clear hA0 hval0
  simp only [List.append_nil] at hW'
  refine (curveEight_true a0 W hl0).mono fun e W' ⟨he, bel⟩ => ?_
  subst he
  exact ⟨_, rfl, _, _, _, [], [], [], hW', trodAll_mk1 (shut_bool Try.underlying4 _), (trodAll_cons_mk (shut_arr8 Try.underlying23 Try.underlying5 (by kernel_rfl) (by kernel_rfl) a0 hl0) trodAll_mk0), rfl, bel.frame _, fun h => by cases h⟩

theorem curveEight_holds : Rows.CurveEightSaid :=
  OpenClaim.holds_of_wide 8 Try.f8 rfl rfl rfl rfl rfl rfl rfl ⟨rfl, rfl, rfl, rfl, rfl⟩ rfl rfl rfl rfl rfl (by kernel_rfl) Try.func8 (by kernel_rfl)
    (of_decide_eq_true (by kernel_rfl)) (by unfold Func.isWrapper; first | (rw [if_pos (by decide +kernel)]; kernel_rfl) | (rw [if_neg (by decide +kernel)]; exact ⟨rfl, rfl⟩))
    (fun os started H enc _ => curveEight_lifted os started H enc)
#print axioms curveEight_holds

end Go.Proofs.Ytfmclkmmkceldaa
