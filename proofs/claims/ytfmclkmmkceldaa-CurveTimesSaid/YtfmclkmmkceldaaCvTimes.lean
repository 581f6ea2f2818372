/-
  CurveTimes: so often and so often is as often as both together; a times b times is a b times.
  Conditions: none.
-/
import Derived.Test.YtfmclkmmkceldaaCvA
import Derived.Test.YtfmclkmmkceldaaFdO
namespace Go.Proofs.Ytfmclkmmkceldaa
open Go.RowKit

set_option linter.unusedSimpArgs false
set_option linter.unusedVariables false
open Go.ChangeShapes Go.WideShapes Go.ChangeAt
theorem SAdd (n m : Nat) (hn : n < 115792089237316195423570985008687907853269984665640564039457584007913129639936) (hm : m < 115792089237316195423570985008687907853269984665640564039457584007913129639936) (w : World) : Calls Try.prog 33 #[.agg (PB n), .agg (PB m)] w fun e w' => e = .returned (.agg (PB ((n + m) % LL))) ∧ Below w.heap.size w w' := by
  have h := Add_sc (b32 n) (b32 m) w (b32_len n) (b32_len m)
  rw [le_b32 n hn, le_b32 m hm] at h
  exact h
theorem SMul (n m k : Nat) (hn : n < 115792089237316195423570985008687907853269984665640564039457584007913129639936) (hm : m < 115792089237316195423570985008687907853269984665640564039457584007913129639936) (hk : k < 115792089237316195423570985008687907853269984665640564039457584007913129639936) (w : World) : Calls Try.prog 34 #[.agg (PB n), .agg (PB m), .agg (PB k)] w fun e w' => e = .returned (.agg (PB ((n * m + k) % LL))) ∧ Below w.heap.size w w' := by
  have h := MulAdd_sc (b32 n) (b32 m) (b32 k) w (b32_len n) (b32_len m) (b32_len k)
  rw [le_b32 n hn, le_b32 m hm, le_b32 k hk] at h
  exact h
theorem SNeg (n : Nat) (hn : n < 115792089237316195423570985008687907853269984665640564039457584007913129639936) (w : World) : Calls Try.prog 35 #[.agg (PB n)] w fun e w' => e = .returned (.agg (PB ((LL - n % LL) % LL))) ∧ Below w.heap.size w w' := by
  have h := Neg_sc (b32 n) w (b32_len n)
  rw [le_b32 n hn] at h
  exact h
theorem tm_add (n m : Nat) : padd (ptimes n cB) (ptimes m cB) = ptimes ((n + m) % LL) cB := by rw [ptimes_rest LB, ptimes_add]
theorem tm_mul (n m : Nat) : ptimes m (ptimes n cB) = ptimes ((n * m + 0) % LL) cB := by rw [ptimes_rest LB, Nat.add_zero, Nat.mul_comm, ptimes_mul]
theorem tm_neg (n : Nat) : padd (ptimes ((LL - n % LL) % LL) cB) (ptimes n cB) = pzero := by
  rw [ptimes_rest LB, ← ptimes_rest LB n, ← ptimes_add, Nat.sub_add_cancel (Nat.le_of_lt (Nat.mod_lt n (by decide)))]
  exact LB
set_option maxRecDepth 100000 in
set_option maxHeartbeats 1000000 in
theorem curveTimes_nat (n : Nat) (hn : n < 115792089237316195423570985008687907853269984665640564039457584007913129639936) (m : Nat) (hm : m < 115792089237316195423570985008687907853269984665640564039457584007913129639936) (w : World) :
    Calls Try.prog 7 #[.agg (PB n), .agg (PB m)] w fun e w' => e = .returned (.bool true) ∧ Below w.heap.size w w' := by
  have HLn := Lib.hid hn
  clear hn
  have HLm := Lib.hid hm
  clear hm
  obtain ⟨q1, hq1⟩ : ∃ q : Pt, q = ptimes n cB := ⟨_, rfl⟩
  have HE1 := Lib.hid hq1
  clear hq1
  have HQ2 := Lib.hid (fun w => Times_ok n HLn.out cB w)
  rw [← HE1.out] at HQ2
  obtain ⟨q3, hq3⟩ : ∃ q : Pt, q = ptimes m cB := ⟨_, rfl⟩
  have HE3 := Lib.hid hq3
  clear hq3
  have HQ4 := Lib.hid (fun w => Times_ok m HLm.out cB w)
  rw [← HE3.out] at HQ4
  obtain ⟨q5, hq5⟩ : ∃ q : Pt, q = padd q1 q3 := ⟨_, rfl⟩
  have HE5 := Lib.hid hq5
  clear hq5
  have HQ6 := Lib.hid (fun w => Add_ok q1 q3 w)
  rw [← HE5.out] at HQ6
  have HQ7 := Lib.hid (fun w => SAdd n m HLn.out HLm.out w)
  obtain ⟨q8, hq8⟩ : ∃ q : Pt, q = ptimes ((n + m) % LL) cB := ⟨_, rfl⟩
  have HE8 := Lib.hid hq8
  clear hq8
  have HQ9 := Lib.hid (fun w => Times_ok ((n + m) % LL) (oL_lt _) cB w)
  rw [← HE8.out] at HQ9
  obtain ⟨q10, hq10⟩ : ∃ q : Pt, q = ptimes m q1 := ⟨_, rfl⟩
  have HE10 := Lib.hid hq10
  clear hq10
  have HQ11 := Lib.hid (fun w => Times_ok m HLm.out q1 w)
  rw [← HE10.out] at HQ11
  have HQ12 := Lib.hid (fun w => SMul n m 0 HLn.out HLm.out (by decide) w)
  obtain ⟨q13, hq13⟩ : ∃ q : Pt, q = ptimes ((n * m + 0) % LL) cB := ⟨_, rfl⟩
  have HE13 := Lib.hid hq13
  clear hq13
  have HQ14 := Lib.hid (fun w => Times_ok ((n * m + 0) % LL) (oL_lt _) cB w)
  rw [← HE13.out] at HQ14
  have HQ15 := Lib.hid (fun w => SNeg n HLn.out w)
  obtain ⟨q16, hq16⟩ : ∃ q : Pt, q = ptimes ((LL - n % LL) % LL) cB := ⟨_, rfl⟩
  have HE16 := Lib.hid hq16
  clear hq16
  have HQ17 := Lib.hid (fun w => Times_ok ((LL - n % LL) % LL) (oL_lt _) cB w)
  rw [← HE16.out] at HQ17
  obtain ⟨q18, hq18⟩ : ∃ q : Pt, q = padd q16 q1 := ⟨_, rfl⟩
  have HE18 := Lib.hid hq18
  clear hq18
  have HQ19 := Lib.hid (fun w => Add_ok q16 q1 w)
  rw [← HE18.out] at HQ19
  go_enter Try.func7, Try.ntmps7
  go_upto_region 1 with fail
  generalize hW1 : World.alloc _ _ = W1
  obtain ⟨N, hN⟩ : ∃ n, w.heap.size = n := ⟨_, rfl⟩
  have HX0 := Lib.hid (show CT W1 N 23 (PB n) by subst hW1; rw [← hN]; exact (allocs2_at w _ _).1)
  have HX1 := Lib.hid (show CT W1 (N + 1) 23 (PB m) by subst hW1; rw [← hN]; exact (allocs2_at w _ _).2)
  have HB := Lib.hid (show Below N w W1 by subst hW1; rw [← hN]; exact allocs2_below w _ _)
  have HN := Lib.hid hN
  rw [hN]
  clear hW1 hN
  refine wp_region_seq 1 ?_
  simp only [List.take_succ_cons, List.take_zero, List.drop_succ_cons, List.drop_zero]
  refine upW_call (by rfl) (by rfl) (.bool true) _ rfl (by simp) (fun p => ?_) ?_
  · go_big_quiet_op
    exact ⟨_, fun q => Calls.ext_of (awake9_any q.x), rfl⟩
  simp only [Act.put, List.setIfInBounds_toArray, List.set]
  refine upW_nil (fun wr1 hbr1 => ?_)
  replace HX0 := Lib.hid (HX0.out.ext hbr1)
  replace HX1 := Lib.hid (HX1.out.ext hbr1)
  replace HB := Lib.hid (HB.out.trans (hbr1.mono (show N ≤ _ by have := HB.out.size; have := HN.out; omega)))
  clear hbr1
  go_upto_region 3 with fail
  refine wp_region_whole [0, 1] [⟨2, _, 34, (PB 0), 5, 4, _, 34, 25, (PB n)⟩, ⟨3, _, 34, (PB 0), 6, 5, _, 34, 26, (PB m)⟩] [5, 4, 3, 2] (by kernel_rfl) (by kernel_rfl) (List.forall_mem_cons.2 ⟨⟨⟨rfl, rfl, rfl, fun a w => alloc_run _ _ zSc a _ rfl w⟩, rfl, rfl, rfl, rfl, (PB_rw n).info (by kernel_rfl), (PB_rw 0).same (PB_rw n), (PB_rw n).one⟩, (List.forall_mem_cons.2 ⟨⟨⟨rfl, rfl, rfl, fun a w => alloc_run _ _ zSc a _ rfl w⟩, rfl, rfl, rfl, rfl, (PB_rw m).info (by kernel_rfl), (PB_rw 0).same (PB_rw m), (PB_rw m).one⟩, (List.forall_mem_nil _)⟩)⟩) rfl ?_
  simp only [List.foldl, List.eraseIdx_cons_succ, List.eraseIdx_cons_zero]
  refine upW_val (by rfl) (by rfl) (by rfl) (fun K hK => quiet_load_ct _ _ rfl N rfl 23 (PB n) 32 (PB_rw n) _ HX0.out Try.underlying23 rfl (by kernel_rfl) (hK _ ?_))
  simp only [Act.put, List.setIfInBounds_toArray, List.set]
  refine upW_val (by rfl) (by rfl) (by rfl) (fun K hK => quiet_load_ct _ _ rfl (N + 1) rfl 23 (PB m) 32 (PB_rw m) _ HX1.out Try.underlying23 rfl (by kernel_rfl) (hK _ ?_))
  simp only [Act.put, List.setIfInBounds_toArray, List.set]
  refine upW_nil ⟨(List.forall_mem_cons.2 ⟨rfl, (List.forall_mem_cons.2 ⟨rfl, (List.forall_mem_nil _)⟩)⟩), fun M wr2 hM hne hbr2 => ?_⟩
  have hm0 := hM _ (List.mem_cons_self ..)
  have hm1 := hM _ (List.mem_cons_of_mem _ (List.mem_cons_self ..))
  have hn2x01 : M 2 ≠ M 3 := hne _ (List.mem_cons_self ..) _ (List.mem_cons_of_mem _ (List.mem_cons_self ..)) (show (2 : Nat) ≠ 3 by decide)
  clear hM hne
  simp only [List.foldr, pS, Act.put, List.setIfInBounds_toArray, List.set]
  obtain ⟨B2x0, hB2x0⟩ : ∃ m, M 2 = m := ⟨_, rfl⟩
  have HB2x0 := Lib.hid (show CT wr2 B2x0 34 (PB n) by rw [← hB2x0]; exact hm0.2)
  have hlB2x0X0 : N < B2x0 := by rw [← hB2x0]; exact Nat.lt_of_lt_of_le HX0.out.lt hm0.1
  have hlB2x0X1 : (N + 1) < B2x0 := by rw [← hB2x0]; exact Nat.lt_of_lt_of_le HX1.out.lt hm0.1
  have hNB2x0 : N ≤ B2x0 := by rw [← hB2x0]; exact Nat.le_trans (by have := HB.out.size; have := HN.out; omega) hm0.1
  obtain ⟨B2x1, hB2x1⟩ : ∃ m, M 3 = m := ⟨_, rfl⟩
  have HB2x1 := Lib.hid (show CT wr2 B2x1 34 (PB m) by rw [← hB2x1]; exact hm1.2)
  have hlB2x1X0 : N < B2x1 := by rw [← hB2x1]; exact Nat.lt_of_lt_of_le HX0.out.lt hm1.1
  have hlB2x1X1 : (N + 1) < B2x1 := by rw [← hB2x1]; exact Nat.lt_of_lt_of_le HX1.out.lt hm1.1
  have hNB2x1 : N ≤ B2x1 := by rw [← hB2x1]; exact Nat.le_trans (by have := HB.out.size; have := HN.out; omega) hm1.1
  rw [hB2x0, hB2x1] at hn2x01
  rw [hB2x0, hB2x1]
  clear hm0 hB2x0 hm1 hB2x1
  replace HX0 := Lib.hid (HX0.out.ext hbr2)
  replace HX1 := Lib.hid (HX1.out.ext hbr2)
  replace HB := Lib.hid (HB.out.trans (hbr2.mono (show N ≤ _ by have := HB.out.size; have := HN.out; omega)))
  clear hbr2
  go_upto_region 4 with fail
  refine wp_region_whole [0, 1, 2, 3, 4, 5, 8] [⟨6, _, 24, (PB 0), 7, 7, _, 24, 31, (PB (pN q1))⟩] [7, 6] (by kernel_rfl) (by kernel_rfl) (List.forall_mem_cons.2 ⟨⟨⟨rfl, rfl, rfl, fun a w => alloc_run _ _ zPt a _ rfl w⟩, rfl, rfl, rfl, rfl, (PB_rw (pN q1)).info (by kernel_rfl), (PB_rw 0).same (PB_rw (pN q1)), (PB_rw (pN q1)).one⟩, (List.forall_mem_nil _)⟩) rfl ?_
  simp only [List.foldl, List.eraseIdx_cons_succ, List.eraseIdx_cons_zero]
  refine upW_val (by rfl) (by rfl) (by rfl) (fun K hK => quiet_load_ct _ _ rfl B2x0 rfl 34 (PB n) 32 (PB_rw n) _ HB2x0.out Try.underlying34 rfl (by kernel_rfl) (hK _ ?_))
  simp only [Act.put, List.setIfInBounds_toArray, List.set]
  refine upW_call (by rfl) (by rfl) (.agg (PB (pN cB))) _ rfl (by simp) (fun p => ?_) ?_
  · go_big_quiet_op
    exact ⟨_, fun q => Calls.ext_of (Base_pt q.x), rfl⟩
  simp only [Act.put, List.setIfInBounds_toArray, List.set]
  refine upW_call (by rfl) (by rfl) (.tuple #[.agg (PB (pN q1)), .bool true]) _ rfl (by simp) (fun p => ?_) ?_
  · go_big_quiet_op
    exact ⟨_, fun q => Calls.ext_of (HQ2.out q.x), rfl⟩
  simp only [Act.put, List.setIfInBounds_toArray, List.set]
  refine upW_val (by rfl) (by rfl) (by rfl) ?_
  intro K hK
  go_big_quiet_op
  refine hK _ ?_
  refine upW_late (by rfl) (.agg (PB (pN q1))) (fun _ => rfl) ?_
  simp only [Act.put, List.setIfInBounds_toArray, List.set]
  refine upW_late (by rfl) (.bool true) (fun _ => rfl) ?_
  simp only [Act.put, List.setIfInBounds_toArray, List.set]
  refine upW_val (by rfl) (by rfl) (by rfl) ?_
  intro K hK
  go_big_quiet_op
  refine hK _ ?_
  refine upW_nil ⟨(List.forall_mem_cons.2 ⟨rfl, (List.forall_mem_nil _)⟩), fun M wr3 hM hne hbr3 => ?_⟩
  have hm0 := hM _ (List.mem_cons_self ..)
  clear hM hne
  simp only [List.foldr, pS, Act.put, List.setIfInBounds_toArray, List.set]
  obtain ⟨B3x0, hB3x0⟩ : ∃ m, M 6 = m := ⟨_, rfl⟩
  have HB3x0 := Lib.hid (show CT wr3 B3x0 24 (PB (pN q1)) by rw [← hB3x0]; exact hm0.2)
  have hlB3x0X0 : N < B3x0 := by rw [← hB3x0]; exact Nat.lt_of_lt_of_le HX0.out.lt hm0.1
  have hlB3x0X1 : (N + 1) < B3x0 := by rw [← hB3x0]; exact Nat.lt_of_lt_of_le HX1.out.lt hm0.1
  have hlB3x0B2x0 : B2x0 < B3x0 := by rw [← hB3x0]; exact Nat.lt_of_lt_of_le HB2x0.out.lt hm0.1
  have hlB3x0B2x1 : B2x1 < B3x0 := by rw [← hB3x0]; exact Nat.lt_of_lt_of_le HB2x1.out.lt hm0.1
  have hNB3x0 : N ≤ B3x0 := by rw [← hB3x0]; exact Nat.le_trans (by have := HB.out.size; have := HN.out; omega) hm0.1
  rw [hB3x0]
  clear hm0 hB3x0
  replace HX0 := Lib.hid (HX0.out.ext hbr3)
  replace HX1 := Lib.hid (HX1.out.ext hbr3)
  replace HB2x0 := Lib.hid (HB2x0.out.ext hbr3)
  replace HB2x1 := Lib.hid (HB2x1.out.ext hbr3)
  replace HB := Lib.hid (HB.out.trans (hbr3.mono (show N ≤ _ by have := HB.out.size; have := HN.out; omega)))
  clear hbr3
  go_upto_region 5 with fail
  refine wp_region_whole [0, 1, 2, 3, 4, 5, 8] [⟨6, _, 24, (PB 0), 9, 7, _, 24, 37, (PB (pN q3))⟩] [7, 6] (by kernel_rfl) (by kernel_rfl) (List.forall_mem_cons.2 ⟨⟨⟨rfl, rfl, rfl, fun a w => alloc_run _ _ zPt a _ rfl w⟩, rfl, rfl, rfl, rfl, (PB_rw (pN q3)).info (by kernel_rfl), (PB_rw 0).same (PB_rw (pN q3)), (PB_rw (pN q3)).one⟩, (List.forall_mem_nil _)⟩) rfl ?_
  simp only [List.foldl, List.eraseIdx_cons_succ, List.eraseIdx_cons_zero]
  refine upW_val (by rfl) (by rfl) (by rfl) (fun K hK => quiet_load_ct _ _ rfl B2x1 rfl 34 (PB m) 32 (PB_rw m) _ HB2x1.out Try.underlying34 rfl (by kernel_rfl) (hK _ ?_))
  simp only [Act.put, List.setIfInBounds_toArray, List.set]
  refine upW_call (by rfl) (by rfl) (.agg (PB (pN cB))) _ rfl (by simp) (fun p => ?_) ?_
  · go_big_quiet_op
    exact ⟨_, fun q => Calls.ext_of (Base_pt q.x), rfl⟩
  simp only [Act.put, List.setIfInBounds_toArray, List.set]
  refine upW_call (by rfl) (by rfl) (.tuple #[.agg (PB (pN q3)), .bool true]) _ rfl (by simp) (fun p => ?_) ?_
  · go_big_quiet_op
    exact ⟨_, fun q => Calls.ext_of (HQ4.out q.x), rfl⟩
  simp only [Act.put, List.setIfInBounds_toArray, List.set]
  refine upW_val (by rfl) (by rfl) (by rfl) ?_
  intro K hK
  go_big_quiet_op
  refine hK _ ?_
  refine upW_late (by rfl) (.agg (PB (pN q3))) (fun _ => rfl) ?_
  simp only [Act.put, List.setIfInBounds_toArray, List.set]
  refine upW_late (by rfl) (.bool true) (fun _ => rfl) ?_
  simp only [Act.put, List.setIfInBounds_toArray, List.set]
  refine upW_val (by rfl) (by rfl) (by rfl) ?_
  intro K hK
  go_big_quiet_op
  refine hK _ ?_
  refine upW_nil ⟨(List.forall_mem_cons.2 ⟨rfl, (List.forall_mem_nil _)⟩), fun M wr4 hM hne hbr4 => ?_⟩
  have hm0 := hM _ (List.mem_cons_self ..)
  clear hM hne
  simp only [List.foldr, pS, Act.put, List.setIfInBounds_toArray, List.set]
  obtain ⟨B4x0, hB4x0⟩ : ∃ m, M 6 = m := ⟨_, rfl⟩
  have HB4x0 := Lib.hid (show CT wr4 B4x0 24 (PB (pN q3)) by rw [← hB4x0]; exact hm0.2)
  have hlB4x0X0 : N < B4x0 := by rw [← hB4x0]; exact Nat.lt_of_lt_of_le HX0.out.lt hm0.1
  have hlB4x0X1 : (N + 1) < B4x0 := by rw [← hB4x0]; exact Nat.lt_of_lt_of_le HX1.out.lt hm0.1
  have hlB4x0B2x0 : B2x0 < B4x0 := by rw [← hB4x0]; exact Nat.lt_of_lt_of_le HB2x0.out.lt hm0.1
  have hlB4x0B2x1 : B2x1 < B4x0 := by rw [← hB4x0]; exact Nat.lt_of_lt_of_le HB2x1.out.lt hm0.1
  have hlB4x0B3x0 : B3x0 < B4x0 := by rw [← hB4x0]; exact Nat.lt_of_lt_of_le HB3x0.out.lt hm0.1
  have hNB4x0 : N ≤ B4x0 := by rw [← hB4x0]; exact Nat.le_trans (by have := HB.out.size; have := HN.out; omega) hm0.1
  rw [hB4x0]
  clear hm0 hB4x0
  replace HX0 := Lib.hid (HX0.out.ext hbr4)
  replace HX1 := Lib.hid (HX1.out.ext hbr4)
  replace HB2x0 := Lib.hid (HB2x0.out.ext hbr4)
  replace HB2x1 := Lib.hid (HB2x1.out.ext hbr4)
  replace HB3x0 := Lib.hid (HB3x0.out.ext hbr4)
  replace HB := Lib.hid (HB.out.trans (hbr4.mono (show N ≤ _ by have := HB.out.size; have := HN.out; omega)))
  clear hbr4
  go_upto_region 6 with fail
  refine wp_region_seq 6 ?_
  simp only [List.take_succ_cons, List.take_zero, List.drop_succ_cons, List.drop_zero]
  refine upW_val (by rfl) (by rfl) (by rfl) (fun K hK => quiet_load_ct _ _ rfl B3x0 rfl 24 (PB (pN q1)) 32 (PB_rw (pN q1)) _ HB3x0.out Try.underlying24 rfl (by kernel_rfl) (hK _ ?_))
  simp only [Act.put, List.setIfInBounds_toArray, List.set]
  refine upW_val (by rfl) (by rfl) (by rfl) (fun K hK => quiet_load_ct _ _ rfl B4x0 rfl 24 (PB (pN q3)) 32 (PB_rw (pN q3)) _ HB4x0.out Try.underlying24 rfl (by kernel_rfl) (hK _ ?_))
  simp only [Act.put, List.setIfInBounds_toArray, List.set]
  refine upW_call (by rfl) (by rfl) (.tuple #[.agg (PB (pN q5)), .bool true]) _ rfl (by simp) (fun p => ?_) ?_
  · go_big_quiet_op
    exact ⟨_, fun q => Calls.ext_of (HQ6.out q.x), rfl⟩
  simp only [Act.put, List.setIfInBounds_toArray, List.set]
  refine upW_val (by rfl) (by rfl) (by rfl) ?_
  intro K hK
  go_big_quiet_op
  refine hK _ ?_
  refine upW_late (by rfl) (.agg (PB (pN q5))) (fun _ => rfl) ?_
  simp only [Act.put, List.setIfInBounds_toArray, List.set]
  refine upW_late (by rfl) (.bool true) (fun _ => rfl) ?_
  simp only [Act.put, List.setIfInBounds_toArray, List.set]
  refine upW_nil (fun wr5 hbr5 => ?_)
  replace HX0 := Lib.hid (HX0.out.ext hbr5)
  replace HX1 := Lib.hid (HX1.out.ext hbr5)
  replace HB2x0 := Lib.hid (HB2x0.out.ext hbr5)
  replace HB2x1 := Lib.hid (HB2x1.out.ext hbr5)
  replace HB3x0 := Lib.hid (HB3x0.out.ext hbr5)
  replace HB4x0 := Lib.hid (HB4x0.out.ext hbr5)
  replace HB := Lib.hid (HB.out.trans (hbr5.mono (show N ≤ _ by have := HB.out.size; have := HN.out; omega)))
  clear hbr5
  refine wpList_new1 rfl 24 rfl (PB 0) zPt rfl _ _ rfl rfl (PB (pN q5)) 32 (PB_rw (pN q5)) (PB_rw 0).size (by kernel_rfl) rfl rfl (fun B6 wr6 hB6 hbr6 hCB6 => ?_)
  have HB6 := Lib.hid hCB6
  have hlB6X0 : N < B6 := by rw [← hB6]; exact HX0.out.lt
  have hlB6X1 : (N + 1) < B6 := by rw [← hB6]; exact HX1.out.lt
  have hlB6B2x0 : B2x0 < B6 := by rw [← hB6]; exact HB2x0.out.lt
  have hlB6B2x1 : B2x1 < B6 := by rw [← hB6]; exact HB2x1.out.lt
  have hlB6B3x0 : B3x0 < B6 := by rw [← hB6]; exact HB3x0.out.lt
  have hlB6B4x0 : B4x0 < B6 := by rw [← hB6]; exact HB4x0.out.lt
  have hNB6 : N ≤ B6 := by rw [← hB6]; have := HB.out.size; have := HN.out; omega
  clear hB6 hCB6
  simp only [Act.put, List.setIfInBounds_toArray, List.set]
  replace HX0 := Lib.hid (HX0.out.ext hbr6)
  replace HX1 := Lib.hid (HX1.out.ext hbr6)
  replace HB2x0 := Lib.hid (HB2x0.out.ext hbr6)
  replace HB2x1 := Lib.hid (HB2x1.out.ext hbr6)
  replace HB3x0 := Lib.hid (HB3x0.out.ext hbr6)
  replace HB4x0 := Lib.hid (HB4x0.out.ext hbr6)
  replace HB := Lib.hid (HB.out.trans (hbr6.mono (show N ≤ _ by have := HB.out.size; have := HN.out; omega)))
  clear hbr6
  go_upto_region 7 with fail
  refine wp_region_seq 8 ?_
  simp only [List.take_succ_cons, List.take_zero, List.drop_succ_cons, List.drop_zero]
  refine upW_val (by rfl) (by rfl) (by rfl) (fun K hK => quiet_load_ct _ _ rfl B2x0 rfl 34 (PB n) 32 (PB_rw n) _ HB2x0.out Try.underlying34 rfl (by kernel_rfl) (hK _ ?_))
  simp only [Act.put, List.setIfInBounds_toArray, List.set]
  refine upW_val (by rfl) (by rfl) (by rfl) (fun K hK => quiet_load_ct _ _ rfl B2x1 rfl 34 (PB m) 32 (PB_rw m) _ HB2x1.out Try.underlying34 rfl (by kernel_rfl) (hK _ ?_))
  simp only [Act.put, List.setIfInBounds_toArray, List.set]
  refine upW_call (by rfl) (by rfl) (.agg (PB ((n + m) % LL))) _ rfl (by simp) (fun p => ?_) ?_
  · go_big_quiet_op
    exact ⟨_, fun q => Calls.ext_of (HQ7.out q.x), rfl⟩
  simp only [Act.put, List.setIfInBounds_toArray, List.set]
  refine upW_call (by rfl) (by rfl) (.agg (PB (pN cB))) _ rfl (by simp) (fun p => ?_) ?_
  · go_big_quiet_op
    exact ⟨_, fun q => Calls.ext_of (Base_pt q.x), rfl⟩
  simp only [Act.put, List.setIfInBounds_toArray, List.set]
  refine upW_call (by rfl) (by rfl) (.tuple #[.agg (PB (pN q8)), .bool true]) _ rfl (by simp) (fun p => ?_) ?_
  · go_big_quiet_op
    exact ⟨_, fun q => Calls.ext_of (HQ9.out q.x), rfl⟩
  simp only [Act.put, List.setIfInBounds_toArray, List.set]
  refine upW_val (by rfl) (by rfl) (by rfl) ?_
  intro K hK
  go_big_quiet_op
  refine hK _ ?_
  refine upW_late (by rfl) (.agg (PB (pN q8))) (fun _ => rfl) ?_
  simp only [Act.put, List.setIfInBounds_toArray, List.set]
  refine upW_late (by rfl) (.bool true) (fun _ => rfl) ?_
  simp only [Act.put, List.setIfInBounds_toArray, List.set]
  refine upW_nil (fun wr7 hbr7 => ?_)
  replace HX0 := Lib.hid (HX0.out.ext hbr7)
  replace HX1 := Lib.hid (HX1.out.ext hbr7)
  replace HB2x0 := Lib.hid (HB2x0.out.ext hbr7)
  replace HB2x1 := Lib.hid (HB2x1.out.ext hbr7)
  replace HB3x0 := Lib.hid (HB3x0.out.ext hbr7)
  replace HB4x0 := Lib.hid (HB4x0.out.ext hbr7)
  replace HB6 := Lib.hid (HB6.out.ext hbr7)
  replace HB := Lib.hid (HB.out.trans (hbr7.mono (show N ≤ _ by have := HB.out.size; have := HN.out; omega)))
  clear hbr7
  refine wpList_new1 rfl 24 rfl (PB 0) zPt rfl _ _ rfl rfl (PB (pN q8)) 32 (PB_rw (pN q8)) (PB_rw 0).size (by kernel_rfl) rfl rfl (fun B8 wr8 hB8 hbr8 hCB8 => ?_)
  have HB8 := Lib.hid hCB8
  have hlB8X0 : N < B8 := by rw [← hB8]; exact HX0.out.lt
  have hlB8X1 : (N + 1) < B8 := by rw [← hB8]; exact HX1.out.lt
  have hlB8B2x0 : B2x0 < B8 := by rw [← hB8]; exact HB2x0.out.lt
  have hlB8B2x1 : B2x1 < B8 := by rw [← hB8]; exact HB2x1.out.lt
  have hlB8B3x0 : B3x0 < B8 := by rw [← hB8]; exact HB3x0.out.lt
  have hlB8B4x0 : B4x0 < B8 := by rw [← hB8]; exact HB4x0.out.lt
  have hlB8B6 : B6 < B8 := by rw [← hB8]; exact HB6.out.lt
  have hNB8 : N ≤ B8 := by rw [← hB8]; have := HB.out.size; have := HN.out; omega
  clear hB8 hCB8
  simp only [Act.put, List.setIfInBounds_toArray, List.set]
  replace HX0 := Lib.hid (HX0.out.ext hbr8)
  replace HX1 := Lib.hid (HX1.out.ext hbr8)
  replace HB2x0 := Lib.hid (HB2x0.out.ext hbr8)
  replace HB2x1 := Lib.hid (HB2x1.out.ext hbr8)
  replace HB3x0 := Lib.hid (HB3x0.out.ext hbr8)
  replace HB4x0 := Lib.hid (HB4x0.out.ext hbr8)
  replace HB6 := Lib.hid (HB6.out.ext hbr8)
  replace HB := Lib.hid (HB.out.trans (hbr8.mono (show N ≤ _ by have := HB.out.size; have := HN.out; omega)))
  clear hbr8
  go_upto_region 8 with fail
  refine wp_region_seq 6 ?_
  simp only [List.take_succ_cons, List.take_zero, List.drop_succ_cons, List.drop_zero]
  refine upW_val (by rfl) (by rfl) (by rfl) (fun K hK => quiet_load_ct _ _ rfl B2x1 rfl 34 (PB m) 32 (PB_rw m) _ HB2x1.out Try.underlying34 rfl (by kernel_rfl) (hK _ ?_))
  simp only [Act.put, List.setIfInBounds_toArray, List.set]
  refine upW_val (by rfl) (by rfl) (by rfl) (fun K hK => quiet_load_ct _ _ rfl B3x0 rfl 24 (PB (pN q1)) 32 (PB_rw (pN q1)) _ HB3x0.out Try.underlying24 rfl (by kernel_rfl) (hK _ ?_))
  simp only [Act.put, List.setIfInBounds_toArray, List.set]
  refine upW_call (by rfl) (by rfl) (.tuple #[.agg (PB (pN q10)), .bool true]) _ rfl (by simp) (fun p => ?_) ?_
  · go_big_quiet_op
    exact ⟨_, fun q => Calls.ext_of (HQ11.out q.x), rfl⟩
  simp only [Act.put, List.setIfInBounds_toArray, List.set]
  refine upW_val (by rfl) (by rfl) (by rfl) ?_
  intro K hK
  go_big_quiet_op
  refine hK _ ?_
  refine upW_late (by rfl) (.agg (PB (pN q10))) (fun _ => rfl) ?_
  simp only [Act.put, List.setIfInBounds_toArray, List.set]
  refine upW_late (by rfl) (.bool true) (fun _ => rfl) ?_
  simp only [Act.put, List.setIfInBounds_toArray, List.set]
  refine upW_nil (fun wr9 hbr9 => ?_)
  replace HX0 := Lib.hid (HX0.out.ext hbr9)
  replace HX1 := Lib.hid (HX1.out.ext hbr9)
  replace HB2x0 := Lib.hid (HB2x0.out.ext hbr9)
  replace HB2x1 := Lib.hid (HB2x1.out.ext hbr9)
  replace HB3x0 := Lib.hid (HB3x0.out.ext hbr9)
  replace HB4x0 := Lib.hid (HB4x0.out.ext hbr9)
  replace HB6 := Lib.hid (HB6.out.ext hbr9)
  replace HB8 := Lib.hid (HB8.out.ext hbr9)
  replace HB := Lib.hid (HB.out.trans (hbr9.mono (show N ≤ _ by have := HB.out.size; have := HN.out; omega)))
  clear hbr9
  refine wpList_new1 rfl 24 rfl (PB 0) zPt rfl _ _ rfl rfl (PB (pN q10)) 32 (PB_rw (pN q10)) (PB_rw 0).size (by kernel_rfl) rfl rfl (fun B10 wr10 hB10 hbr10 hCB10 => ?_)
  have HB10 := Lib.hid hCB10
  have hlB10X0 : N < B10 := by rw [← hB10]; exact HX0.out.lt
  have hlB10X1 : (N + 1) < B10 := by rw [← hB10]; exact HX1.out.lt
  have hlB10B2x0 : B2x0 < B10 := by rw [← hB10]; exact HB2x0.out.lt
  have hlB10B2x1 : B2x1 < B10 := by rw [← hB10]; exact HB2x1.out.lt
  have hlB10B3x0 : B3x0 < B10 := by rw [← hB10]; exact HB3x0.out.lt
  have hlB10B4x0 : B4x0 < B10 := by rw [← hB10]; exact HB4x0.out.lt
  have hlB10B6 : B6 < B10 := by rw [← hB10]; exact HB6.out.lt
  have hlB10B8 : B8 < B10 := by rw [← hB10]; exact HB8.out.lt
  have hNB10 : N ≤ B10 := by rw [← hB10]; have := HB.out.size; have := HN.out; omega
  clear hB10 hCB10
  simp only [Act.put, List.setIfInBounds_toArray, List.set]
  replace HX0 := Lib.hid (HX0.out.ext hbr10)
  replace HX1 := Lib.hid (HX1.out.ext hbr10)
  replace HB2x0 := Lib.hid (HB2x0.out.ext hbr10)
  replace HB2x1 := Lib.hid (HB2x1.out.ext hbr10)
  replace HB3x0 := Lib.hid (HB3x0.out.ext hbr10)
  replace HB4x0 := Lib.hid (HB4x0.out.ext hbr10)
  replace HB6 := Lib.hid (HB6.out.ext hbr10)
  replace HB8 := Lib.hid (HB8.out.ext hbr10)
  replace HB := Lib.hid (HB.out.trans (hbr10.mono (show N ≤ _ by have := HB.out.size; have := HN.out; omega)))
  clear hbr10
  go_upto_region 9 with fail
  refine wp_region_seq 9 ?_
  simp only [List.take_succ_cons, List.take_zero, List.drop_succ_cons, List.drop_zero]
  refine upW_val (by rfl) (by rfl) (by rfl) (fun K hK => quiet_load_ct _ _ rfl B2x0 rfl 34 (PB n) 32 (PB_rw n) _ HB2x0.out Try.underlying34 rfl (by kernel_rfl) (hK _ ?_))
  simp only [Act.put, List.setIfInBounds_toArray, List.set]
  refine upW_val (by rfl) (by rfl) (by rfl) (fun K hK => quiet_load_ct _ _ rfl B2x1 rfl 34 (PB m) 32 (PB_rw m) _ HB2x1.out Try.underlying34 rfl (by kernel_rfl) (hK _ ?_))
  simp only [Act.put, List.setIfInBounds_toArray, List.set]
  refine upW_late (by rfl) (.agg (PB 0)) (fun w => run_built _ _ _ _ rfl _ (by kernel_rfl) w) ?_
  simp only [Act.put, List.setIfInBounds_toArray, List.set]
  refine upW_call (by rfl) (by rfl) (.agg (PB ((n * m + 0) % LL))) _ rfl (by simp) (fun p => ?_) ?_
  · go_big_quiet_op
    exact ⟨_, fun q => Calls.ext_of (HQ12.out q.x), rfl⟩
  simp only [Act.put, List.setIfInBounds_toArray, List.set]
  refine upW_call (by rfl) (by rfl) (.agg (PB (pN cB))) _ rfl (by simp) (fun p => ?_) ?_
  · go_big_quiet_op
    exact ⟨_, fun q => Calls.ext_of (Base_pt q.x), rfl⟩
  simp only [Act.put, List.setIfInBounds_toArray, List.set]
  refine upW_call (by rfl) (by rfl) (.tuple #[.agg (PB (pN q13)), .bool true]) _ rfl (by simp) (fun p => ?_) ?_
  · go_big_quiet_op
    exact ⟨_, fun q => Calls.ext_of (HQ14.out q.x), rfl⟩
  simp only [Act.put, List.setIfInBounds_toArray, List.set]
  refine upW_val (by rfl) (by rfl) (by rfl) ?_
  intro K hK
  go_big_quiet_op
  refine hK _ ?_
  refine upW_late (by rfl) (.agg (PB (pN q13))) (fun _ => rfl) ?_
  simp only [Act.put, List.setIfInBounds_toArray, List.set]
  refine upW_late (by rfl) (.bool true) (fun _ => rfl) ?_
  simp only [Act.put, List.setIfInBounds_toArray, List.set]
  refine upW_nil (fun wr11 hbr11 => ?_)
  replace HX0 := Lib.hid (HX0.out.ext hbr11)
  replace HX1 := Lib.hid (HX1.out.ext hbr11)
  replace HB2x0 := Lib.hid (HB2x0.out.ext hbr11)
  replace HB2x1 := Lib.hid (HB2x1.out.ext hbr11)
  replace HB3x0 := Lib.hid (HB3x0.out.ext hbr11)
  replace HB4x0 := Lib.hid (HB4x0.out.ext hbr11)
  replace HB6 := Lib.hid (HB6.out.ext hbr11)
  replace HB8 := Lib.hid (HB8.out.ext hbr11)
  replace HB10 := Lib.hid (HB10.out.ext hbr11)
  replace HB := Lib.hid (HB.out.trans (hbr11.mono (show N ≤ _ by have := HB.out.size; have := HN.out; omega)))
  clear hbr11
  refine wpList_new1 rfl 24 rfl (PB 0) zPt rfl _ _ rfl rfl (PB (pN q13)) 32 (PB_rw (pN q13)) (PB_rw 0).size (by kernel_rfl) rfl rfl (fun B12 wr12 hB12 hbr12 hCB12 => ?_)
  have HB12 := Lib.hid hCB12
  have hlB12X0 : N < B12 := by rw [← hB12]; exact HX0.out.lt
  have hlB12X1 : (N + 1) < B12 := by rw [← hB12]; exact HX1.out.lt
  have hlB12B2x0 : B2x0 < B12 := by rw [← hB12]; exact HB2x0.out.lt
  have hlB12B2x1 : B2x1 < B12 := by rw [← hB12]; exact HB2x1.out.lt
  have hlB12B3x0 : B3x0 < B12 := by rw [← hB12]; exact HB3x0.out.lt
  have hlB12B4x0 : B4x0 < B12 := by rw [← hB12]; exact HB4x0.out.lt
  have hlB12B6 : B6 < B12 := by rw [← hB12]; exact HB6.out.lt
  have hlB12B8 : B8 < B12 := by rw [← hB12]; exact HB8.out.lt
  have hlB12B10 : B10 < B12 := by rw [← hB12]; exact HB10.out.lt
  have hNB12 : N ≤ B12 := by rw [← hB12]; have := HB.out.size; have := HN.out; omega
  clear hB12 hCB12
  simp only [Act.put, List.setIfInBounds_toArray, List.set]
  replace HX0 := Lib.hid (HX0.out.ext hbr12)
  replace HX1 := Lib.hid (HX1.out.ext hbr12)
  replace HB2x0 := Lib.hid (HB2x0.out.ext hbr12)
  replace HB2x1 := Lib.hid (HB2x1.out.ext hbr12)
  replace HB3x0 := Lib.hid (HB3x0.out.ext hbr12)
  replace HB4x0 := Lib.hid (HB4x0.out.ext hbr12)
  replace HB6 := Lib.hid (HB6.out.ext hbr12)
  replace HB8 := Lib.hid (HB8.out.ext hbr12)
  replace HB10 := Lib.hid (HB10.out.ext hbr12)
  replace HB := Lib.hid (HB.out.trans (hbr12.mono (show N ≤ _ by have := HB.out.size; have := HN.out; omega)))
  clear hbr12
  go_upto_region 10 with fail
  refine wp_region_seq 7 ?_
  simp only [List.take_succ_cons, List.take_zero, List.drop_succ_cons, List.drop_zero]
  refine upW_val (by rfl) (by rfl) (by rfl) (fun K hK => quiet_load_ct _ _ rfl B2x0 rfl 34 (PB n) 32 (PB_rw n) _ HB2x0.out Try.underlying34 rfl (by kernel_rfl) (hK _ ?_))
  simp only [Act.put, List.setIfInBounds_toArray, List.set]
  refine upW_call (by rfl) (by rfl) (.agg (PB ((LL - n % LL) % LL))) _ rfl (by simp) (fun p => ?_) ?_
  · go_big_quiet_op
    exact ⟨_, fun q => Calls.ext_of (HQ15.out q.x), rfl⟩
  simp only [Act.put, List.setIfInBounds_toArray, List.set]
  refine upW_call (by rfl) (by rfl) (.agg (PB (pN cB))) _ rfl (by simp) (fun p => ?_) ?_
  · go_big_quiet_op
    exact ⟨_, fun q => Calls.ext_of (Base_pt q.x), rfl⟩
  simp only [Act.put, List.setIfInBounds_toArray, List.set]
  refine upW_call (by rfl) (by rfl) (.tuple #[.agg (PB (pN q16)), .bool true]) _ rfl (by simp) (fun p => ?_) ?_
  · go_big_quiet_op
    exact ⟨_, fun q => Calls.ext_of (HQ17.out q.x), rfl⟩
  simp only [Act.put, List.setIfInBounds_toArray, List.set]
  refine upW_val (by rfl) (by rfl) (by rfl) ?_
  intro K hK
  go_big_quiet_op
  refine hK _ ?_
  refine upW_late (by rfl) (.agg (PB (pN q16))) (fun _ => rfl) ?_
  simp only [Act.put, List.setIfInBounds_toArray, List.set]
  refine upW_late (by rfl) (.bool true) (fun _ => rfl) ?_
  simp only [Act.put, List.setIfInBounds_toArray, List.set]
  refine upW_nil (fun wr13 hbr13 => ?_)
  replace HX0 := Lib.hid (HX0.out.ext hbr13)
  replace HX1 := Lib.hid (HX1.out.ext hbr13)
  replace HB2x0 := Lib.hid (HB2x0.out.ext hbr13)
  replace HB2x1 := Lib.hid (HB2x1.out.ext hbr13)
  replace HB3x0 := Lib.hid (HB3x0.out.ext hbr13)
  replace HB4x0 := Lib.hid (HB4x0.out.ext hbr13)
  replace HB6 := Lib.hid (HB6.out.ext hbr13)
  replace HB8 := Lib.hid (HB8.out.ext hbr13)
  replace HB10 := Lib.hid (HB10.out.ext hbr13)
  replace HB12 := Lib.hid (HB12.out.ext hbr13)
  replace HB := Lib.hid (HB.out.trans (hbr13.mono (show N ≤ _ by have := HB.out.size; have := HN.out; omega)))
  clear hbr13
  refine wpList_new1 rfl 24 rfl (PB 0) zPt rfl _ _ rfl rfl (PB (pN q16)) 32 (PB_rw (pN q16)) (PB_rw 0).size (by kernel_rfl) rfl rfl (fun B14 wr14 hB14 hbr14 hCB14 => ?_)
  have HB14 := Lib.hid hCB14
  have hlB14X0 : N < B14 := by rw [← hB14]; exact HX0.out.lt
  have hlB14X1 : (N + 1) < B14 := by rw [← hB14]; exact HX1.out.lt
  have hlB14B2x0 : B2x0 < B14 := by rw [← hB14]; exact HB2x0.out.lt
  have hlB14B2x1 : B2x1 < B14 := by rw [← hB14]; exact HB2x1.out.lt
  have hlB14B3x0 : B3x0 < B14 := by rw [← hB14]; exact HB3x0.out.lt
  have hlB14B4x0 : B4x0 < B14 := by rw [← hB14]; exact HB4x0.out.lt
  have hlB14B6 : B6 < B14 := by rw [← hB14]; exact HB6.out.lt
  have hlB14B8 : B8 < B14 := by rw [← hB14]; exact HB8.out.lt
  have hlB14B10 : B10 < B14 := by rw [← hB14]; exact HB10.out.lt
  have hlB14B12 : B12 < B14 := by rw [← hB14]; exact HB12.out.lt
  have hNB14 : N ≤ B14 := by rw [← hB14]; have := HB.out.size; have := HN.out; omega
  clear hB14 hCB14
  simp only [Act.put, List.setIfInBounds_toArray, List.set]
  replace HX0 := Lib.hid (HX0.out.ext hbr14)
  replace HX1 := Lib.hid (HX1.out.ext hbr14)
  replace HB2x0 := Lib.hid (HB2x0.out.ext hbr14)
  replace HB2x1 := Lib.hid (HB2x1.out.ext hbr14)
  replace HB3x0 := Lib.hid (HB3x0.out.ext hbr14)
  replace HB4x0 := Lib.hid (HB4x0.out.ext hbr14)
  replace HB6 := Lib.hid (HB6.out.ext hbr14)
  replace HB8 := Lib.hid (HB8.out.ext hbr14)
  replace HB10 := Lib.hid (HB10.out.ext hbr14)
  replace HB12 := Lib.hid (HB12.out.ext hbr14)
  replace HB := Lib.hid (HB.out.trans (hbr14.mono (show N ≤ _ by have := HB.out.size; have := HN.out; omega)))
  clear hbr14
  go_upto_region 11 with fail
  refine wp_region_seq 6 ?_
  simp only [List.take_succ_cons, List.take_zero, List.drop_succ_cons, List.drop_zero]
  refine upW_val (by rfl) (by rfl) (by rfl) (fun K hK => quiet_load_ct _ _ rfl B14 rfl 24 (PB (pN q16)) 32 (PB_rw (pN q16)) _ HB14.out Try.underlying24 rfl (by kernel_rfl) (hK _ ?_))
  simp only [Act.put, List.setIfInBounds_toArray, List.set]
  refine upW_val (by rfl) (by rfl) (by rfl) (fun K hK => quiet_load_ct _ _ rfl B3x0 rfl 24 (PB (pN q1)) 32 (PB_rw (pN q1)) _ HB3x0.out Try.underlying24 rfl (by kernel_rfl) (hK _ ?_))
  simp only [Act.put, List.setIfInBounds_toArray, List.set]
  refine upW_call (by rfl) (by rfl) (.tuple #[.agg (PB (pN q18)), .bool true]) _ rfl (by simp) (fun p => ?_) ?_
  · go_big_quiet_op
    exact ⟨_, fun q => Calls.ext_of (HQ19.out q.x), rfl⟩
  simp only [Act.put, List.setIfInBounds_toArray, List.set]
  refine upW_val (by rfl) (by rfl) (by rfl) ?_
  intro K hK
  go_big_quiet_op
  refine hK _ ?_
  refine upW_late (by rfl) (.agg (PB (pN q18))) (fun _ => rfl) ?_
  simp only [Act.put, List.setIfInBounds_toArray, List.set]
  refine upW_late (by rfl) (.bool true) (fun _ => rfl) ?_
  simp only [Act.put, List.setIfInBounds_toArray, List.set]
  refine upW_nil (fun wr15 hbr15 => ?_)
  replace HX0 := Lib.hid (HX0.out.ext hbr15)
  replace HX1 := Lib.hid (HX1.out.ext hbr15)
  replace HB2x0 := Lib.hid (HB2x0.out.ext hbr15)
  replace HB2x1 := Lib.hid (HB2x1.out.ext hbr15)
  replace HB3x0 := Lib.hid (HB3x0.out.ext hbr15)
  replace HB4x0 := Lib.hid (HB4x0.out.ext hbr15)
  replace HB6 := Lib.hid (HB6.out.ext hbr15)
  replace HB8 := Lib.hid (HB8.out.ext hbr15)
  replace HB10 := Lib.hid (HB10.out.ext hbr15)
  replace HB12 := Lib.hid (HB12.out.ext hbr15)
  replace HB14 := Lib.hid (HB14.out.ext hbr15)
  replace HB := Lib.hid (HB.out.trans (hbr15.mono (show N ≤ _ by have := HB.out.size; have := HN.out; omega)))
  clear hbr15
  refine wpList_new1 rfl 24 rfl (PB 0) zPt rfl _ _ rfl rfl (PB (pN q18)) 32 (PB_rw (pN q18)) (PB_rw 0).size (by kernel_rfl) rfl rfl (fun B16 wr16 hB16 hbr16 hCB16 => ?_)
  have HB16 := Lib.hid hCB16
  have hlB16X0 : N < B16 := by rw [← hB16]; exact HX0.out.lt
  have hlB16X1 : (N + 1) < B16 := by rw [← hB16]; exact HX1.out.lt
  have hlB16B2x0 : B2x0 < B16 := by rw [← hB16]; exact HB2x0.out.lt
  have hlB16B2x1 : B2x1 < B16 := by rw [← hB16]; exact HB2x1.out.lt
  have hlB16B3x0 : B3x0 < B16 := by rw [← hB16]; exact HB3x0.out.lt
  have hlB16B4x0 : B4x0 < B16 := by rw [← hB16]; exact HB4x0.out.lt
  have hlB16B6 : B6 < B16 := by rw [← hB16]; exact HB6.out.lt
  have hlB16B8 : B8 < B16 := by rw [← hB16]; exact HB8.out.lt
  have hlB16B10 : B10 < B16 := by rw [← hB16]; exact HB10.out.lt
  have hlB16B12 : B12 < B16 := by rw [← hB16]; exact HB12.out.lt
  have hlB16B14 : B14 < B16 := by rw [← hB16]; exact HB14.out.lt
  have hNB16 : N ≤ B16 := by rw [← hB16]; have := HB.out.size; have := HN.out; omega
  clear hB16 hCB16
  simp only [Act.put, List.setIfInBounds_toArray, List.set]
  replace HX0 := Lib.hid (HX0.out.ext hbr16)
  replace HX1 := Lib.hid (HX1.out.ext hbr16)
  replace HB2x0 := Lib.hid (HB2x0.out.ext hbr16)
  replace HB2x1 := Lib.hid (HB2x1.out.ext hbr16)
  replace HB3x0 := Lib.hid (HB3x0.out.ext hbr16)
  replace HB4x0 := Lib.hid (HB4x0.out.ext hbr16)
  replace HB6 := Lib.hid (HB6.out.ext hbr16)
  replace HB8 := Lib.hid (HB8.out.ext hbr16)
  replace HB10 := Lib.hid (HB10.out.ext hbr16)
  replace HB12 := Lib.hid (HB12.out.ext hbr16)
  replace HB14 := Lib.hid (HB14.out.ext hbr16)
  replace HB := Lib.hid (HB.out.trans (hbr16.mono (show N ≤ _ by have := HB.out.size; have := HN.out; omega)))
  clear hbr16
  go_upto_region 12 with fail
  refine wp_region_upT 37 _ (by kernel_rfl) (by kernel_rfl) rfl (by kernel_rfl) (fun _ _ dst _ _ h => by cases dst <;> exact h) ?_
  simp only [List.take_succ_cons, List.take_zero, List.drop_succ_cons, List.drop_zero]
  refine upW_val (by rfl) (by rfl) (by rfl) ?_
  intro K hK
  go_big_quiet_op
  refine hK _ ?_
  refine upW_val (by rfl) (by rfl) (by rfl) ?_
  intro K hK
  go_big_quiet_op
  refine hK _ ?_
  refine upW_val (by rfl) (by rfl) (by rfl) ?_
  intro K hK
  go_big_quiet_op
  refine hK _ ?_
  refine upW_val (by rfl) (by rfl) (by rfl) ?_
  intro K hK
  go_big_quiet_op
  refine hK _ ?_
  refine upW_val (by rfl) (by rfl) (by rfl) ?_
  intro K hK
  go_big_quiet_op
  refine hK _ ?_
  refine upW_val (by rfl) (by rfl) (by rfl) ?_
  intro K hK
  go_big_quiet_op
  refine hK _ ?_
  refine upW_val (by rfl) (by rfl) (by rfl) ?_
  intro K hK
  go_big_quiet_op
  refine hK _ ?_
  refine upW_val (by rfl) (by rfl) (by rfl) ?_
  intro K hK
  go_big_quiet_op
  refine hK _ ?_
  refine upW_val (by rfl) (by rfl) (by rfl) ?_
  intro K hK
  go_big_quiet_op
  refine hK _ ?_
  refine upW_val (by rfl) (by rfl) (by rfl) ?_
  intro K hK
  go_big_quiet_op
  refine hK _ ?_
  refine upW_val (by rfl) (by rfl) (by rfl) ?_
  intro K hK
  go_big_quiet_op
  refine hK _ ?_
  refine upW_val (by rfl) (by rfl) (by rfl) ?_
  intro K hK
  go_big_quiet_op
  refine hK _ ?_
  refine upW_val (by rfl) (by rfl) (by rfl) ?_
  intro K hK
  go_big_quiet_op
  refine hK _ ?_
  refine upW_val (by rfl) (by rfl) (by rfl) ?_
  intro K hK
  go_big_quiet_op
  refine hK _ ?_
  refine upW_val (by rfl) (by rfl) (by rfl) ?_
  intro K hK
  go_big_quiet_op
  refine hK _ ?_
  refine upW_val (by rfl) (by rfl) (by rfl) ?_
  intro K hK
  go_big_quiet_op
  refine hK _ ?_
  refine upW_val (by rfl) (by rfl) (by rfl) ?_
  intro K hK
  go_big_quiet_op
  refine hK _ ?_
  refine upW_val (by rfl) (by rfl) (by rfl) ?_
  intro K hK
  go_big_quiet_op
  refine hK _ ?_
  refine upW_val (by rfl) (by rfl) (by rfl) ?_
  intro K hK
  go_big_quiet_op
  refine hK _ ?_
  refine upW_val (by rfl) (by rfl) (by rfl) ?_
  intro K hK
  go_big_quiet_op
  refine hK _ ?_
  refine upW_val (by rfl) (by rfl) (by rfl) ?_
  intro K hK
  go_big_quiet_op
  refine hK _ ?_
  refine upW_val (by rfl) (by rfl) (by rfl) ?_
  intro K hK
  go_big_quiet_op
  refine hK _ ?_
  refine upW_val (by rfl) (by rfl) (by rfl) ?_
  intro K hK
  go_big_quiet_op
  refine hK _ ?_
  refine upW_val (by rfl) (by rfl) (by rfl) (fun K hK => quiet_load_ct _ _ rfl B6 rfl 24 (PB (pN q5)) 32 (PB_rw (pN q5)) _ HB6.out Try.underlying24 rfl (by kernel_rfl) (hK _ ?_))
  simp only [Act.put, List.setIfInBounds_toArray, List.set]
  refine upW_val (by rfl) (by rfl) (by rfl) (fun K hK => quiet_load_ct _ _ rfl B8 rfl 24 (PB (pN q8)) 32 (PB_rw (pN q8)) _ HB8.out Try.underlying24 rfl (by kernel_rfl) (hK _ ?_))
  simp only [Act.put, List.setIfInBounds_toArray, List.set]
  refine upW_late (by rfl) (.bool true) (fun w => run_eqP _ _ _ _ 24 rfl Try.underlying24 (pN q5) (pN q8) rfl rfl (pN_lt q5) (pN_lt q8) (by kernel_rfl) true (decide_eq_true (congrArg pN (by simp only [HE1.out, HE3.out, HE5.out, HE8.out, HE10.out, HE13.out, HE16.out, HE18.out]; exact tm_add n m))) w) ?_
  simp only [Act.put, List.setIfInBounds_toArray, List.set]
  refine upW_val (by rfl) (by rfl) (by rfl) ?_
  intro K hK
  go_big_quiet_op
  refine hK _ ?_
  refine upW_val (by rfl) (by rfl) (by rfl) ?_
  intro K hK
  go_big_quiet_op
  refine hK _ ?_
  refine upW_val (by rfl) (by rfl) (by rfl) (fun K hK => quiet_load_ct _ _ rfl B10 rfl 24 (PB (pN q10)) 32 (PB_rw (pN q10)) _ HB10.out Try.underlying24 rfl (by kernel_rfl) (hK _ ?_))
  simp only [Act.put, List.setIfInBounds_toArray, List.set]
  refine upW_val (by rfl) (by rfl) (by rfl) (fun K hK => quiet_load_ct _ _ rfl B12 rfl 24 (PB (pN q13)) 32 (PB_rw (pN q13)) _ HB12.out Try.underlying24 rfl (by kernel_rfl) (hK _ ?_))
  simp only [Act.put, List.setIfInBounds_toArray, List.set]
  refine upW_late (by rfl) (.bool true) (fun w => run_eqP _ _ _ _ 24 rfl Try.underlying24 (pN q10) (pN q13) rfl rfl (pN_lt q10) (pN_lt q13) (by kernel_rfl) true (decide_eq_true (congrArg pN (by simp only [HE1.out, HE3.out, HE5.out, HE8.out, HE10.out, HE13.out, HE16.out, HE18.out]; exact tm_mul n m))) w) ?_
  simp only [Act.put, List.setIfInBounds_toArray, List.set]
  refine upW_val (by rfl) (by rfl) (by rfl) ?_
  intro K hK
  go_big_quiet_op
  refine hK _ ?_
  refine upW_val (by rfl) (by rfl) (by rfl) ?_
  intro K hK
  go_big_quiet_op
  refine hK _ ?_
  refine upW_val (by rfl) (by rfl) (by rfl) (fun K hK => quiet_load_ct _ _ rfl B16 rfl 24 (PB (pN q18)) 32 (PB_rw (pN q18)) _ HB16.out Try.underlying24 rfl (by kernel_rfl) (hK _ ?_))
  simp only [Act.put, List.setIfInBounds_toArray, List.set]
  refine upW_call (by rfl) (by rfl) (.agg (PB (pN pzero))) _ rfl (by simp) (fun p => ?_) ?_
  · go_big_quiet_op
    exact ⟨_, fun q => Calls.ext_of (Zero_pt q.x), rfl⟩
  simp only [Act.put, List.setIfInBounds_toArray, List.set]
  refine upW_late (by rfl) (.bool true) (fun w => run_eqP _ _ _ _ 24 rfl Try.underlying24 (pN q18) (pN pzero) rfl rfl (pN_lt q18) (pN_lt pzero) (by kernel_rfl) true (decide_eq_true (congrArg pN (by simp only [HE1.out, HE3.out, HE5.out, HE8.out, HE10.out, HE13.out, HE16.out, HE18.out]; exact tm_neg n))) w) ?_
  simp only [Act.put, List.setIfInBounds_toArray, List.set]
  refine upW_val (by rfl) (by rfl) (by rfl) ?_
  intro K hK
  go_big_quiet_op
  refine hK _ ?_
  refine upW_nil (fun wr17 hbr17 => ?_)
  replace HX0 := Lib.hid (HX0.out.ext hbr17)
  replace HX1 := Lib.hid (HX1.out.ext hbr17)
  replace HB2x0 := Lib.hid (HB2x0.out.ext hbr17)
  replace HB2x1 := Lib.hid (HB2x1.out.ext hbr17)
  replace HB3x0 := Lib.hid (HB3x0.out.ext hbr17)
  replace HB4x0 := Lib.hid (HB4x0.out.ext hbr17)
  replace HB6 := Lib.hid (HB6.out.ext hbr17)
  replace HB8 := Lib.hid (HB8.out.ext hbr17)
  replace HB10 := Lib.hid (HB10.out.ext hbr17)
  replace HB12 := Lib.hid (HB12.out.ext hbr17)
  replace HB14 := Lib.hid (HB14.out.ext hbr17)
  replace HB16 := Lib.hid (HB16.out.ext hbr17)
  replace HB := Lib.hid (HB.out.trans (hbr17.mono (show N ≤ _ by have := HB.out.size; have := HN.out; omega)))
  clear hbr17
  go_wp2
  go_ret
  exact ⟨rfl, by rw [HN.out]; exact HB.out⟩
theorem curveTimes_true (a b : List UInt8) (w : World) (hla : a.length = 32) (hlb : b.length = 32) : Calls Try.prog 7 #[.agg (byteVals a).toArray, .agg (byteVals b).toArray] w fun e w' => e = .returned (.bool true) ∧ Below w.heap.size w w' := by
  have ea : (byteVals a).toArray = PB (le a) := (PB_le hla).symm
  have eb : (byteVals b).toArray = PB (le b) := (PB_le hlb).symm
  rw [ea, eb]
  exact curveTimes_nat (le a) (le_32 a hla) (le b) (le_32 b hlb) w
theorem curveTimes_own : ownKnob Try.prog.godebug = none := by kernel_rfl

set_option maxRecDepth 100000 in
theorem curveTimes_lifted (os : Os) (started : os.Started) (H : Type) (enc : TypeId × Value → H) :
    ReturnsInHanded {} Try.checked os 7 .any (Rows.curveTimesSpec.pre6 enc Try.prog Try.f7 Rows.curveTimesRow.domain false) (Rows.curveTimesSpec.post enc Try.prog Try.f7 false true false false) := by
  refine returnsInHanded_of_change (C := Try.checked) curveTimes_own started (by kernel_rfl) Try.func7
    (ChangeSpec.witness6 (enc := enc) (C := Try.checked) false ⟨#[], #[.agg (Array.replicate 32 (.int .u8 0)), .agg (Array.replicate 32 (.int .u8 0))], []⟩ 8 (by kernel_rfl) (by kernel_rfl) (by kernel_rfl) (by kernel_rfl)) ?_
  intro W base args ds gs before hval0 hW hcnd _
  have hval : ∀ (j : Nat) t v, Try.f7.params[j]? = some t → args[j]? = some v → Value.okWide Try.prog W .any base t v := hval0
  have hW' := hW
  obtain ⟨p, q, hA0, hV, rfl, hfz, hnd⟩ := hW
  have hA : DataW.TrodAll enc Try.prog W 0 (fun _ => true) true Try.f7.params.toList args.toList ds p := hA0
  rw [Try.params7] at hA hval
  obtain ⟨v0, vs0, d0, ds0, p0, q0, hargs, rfl, rfl, h0, r0⟩ := trodAll_cons hA
  obtain ⟨v1, vs1, d1, ds1, p1, q1, rfl, rfl, rfl, h1, r1⟩ := trodAll_cons r0
  obtain ⟨rfl, rfl, rfl⟩ := trodAll_nil r1
  obtain rfl : args = #[v0, v1] := by cases args; simp_all
  obtain ⟨rfl, rfl⟩ := trodVars_none hV
  obtain ⟨a0, hl0, rfl, rfl, rfl⟩ := open_arr8 Try.underlying23 Try.underlying5 (by kernel_rfl) (by kernel_rfl) (hval 0 23 v0 rfl rfl) h0
  obtain ⟨a1, hl1, rfl, rfl, rfl⟩ := open_arr8 Try.underlying23 Try.underlying5 (by kernel_rfl) (by kernel_rfl) (hval 1 23 v1 rfl rfl) h1
  clear hA0 hval0
  simp only [List.append_nil] at hW'
  refine (curveTimes_true a0 a1 W hl0 hl1).mono fun e W' ⟨he, bel⟩ => ?_
  subst he
  exact ⟨_, rfl, _, _, _, [], [], [], hW', trodAll_mk1 (shut_bool Try.underlying4 _), (trodAll_cons_mk (shut_arr8 Try.underlying23 Try.underlying5 (by kernel_rfl) (by kernel_rfl) a0 hl0) (trodAll_cons_mk (shut_arr8 Try.underlying23 Try.underlying5 (by kernel_rfl) (by kernel_rfl) a1 hl1) trodAll_mk0)), rfl, bel.frame _, fun h => by cases h⟩

theorem curveTimes_holds : Rows.CurveTimesSaid :=
  OpenClaim.holds_of_wide 7 Try.f7 rfl rfl rfl rfl rfl rfl rfl ⟨rfl, rfl, rfl, rfl, rfl⟩ rfl rfl rfl rfl rfl (by kernel_rfl) Try.func7 (by kernel_rfl)
    (of_decide_eq_true (by kernel_rfl)) (by unfold Func.isWrapper; first | (rw [if_pos (by decide +kernel)]; kernel_rfl) | (rw [if_neg (by decide +kernel)]; exact ⟨rfl, rfl⟩))
    (fun os started H enc _ => curveTimes_lifted os started H enc)
#print axioms curveTimes_holds

end Go.Proofs.Ytfmclkmmkceldaa
