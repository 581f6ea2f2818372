/-
  CurveOf: any two numbers: whether they are on a point, and which, is as the document says; of a point's own numbers it is that point.
  Conditions: none.
-/
import Derived.Test.YtfmclkmmkceldaaCvA
import Derived.Test.YtfmclkmmkceldaaFdO
import Derived.Test.YtfmclkmmkceldaaCvR
namespace Go.Proofs.Ytfmclkmmkceldaa
open Go.RowKit

set_option linter.unusedSimpArgs false
set_option linter.unusedVariables false
open Go.ChangeShapes Go.WideShapes Go.ChangeAt
def kO (n m : Nat) : Bool := decide (fp m * fp m - fp n * fp n = 1 + cD * (fp n * fp n * (fp m * fp m)))
def nO (n m : Nat) : Nat := if kO n m = true then encXY (fp n) (fp m) else 0
theorem nO_lt (n m : Nat) : nO n m < 115792089237316195423570985008687907853269984665640564039457584007913129639936 := by
  unfold nO
  split
  · exact encXY_lt _ _
  · decide
theorem Of_f (n m : Nat) (hn : n < 115792089237316195423570985008687907853269984665640564039457584007913129639936) (hm : m < 115792089237316195423570985008687907853269984665640564039457584007913129639936) (w : World) : Calls Try.prog 22 #[.agg (PB n), .agg (PB m)] w fun e w' => e = .returned (.tuple #[.agg (PB (nO n m)), .bool (kO n m)]) ∧ Below w.heap.size w w' := by
  unfold nO
  cases h : kO n m with
  | true => exact Of_ok (isN_PB hn) (isN_PB hm) h w
  | false => exact Of_no (isN_PB hn) (isN_PB hm) h w
theorem OfD_f (n m : Nat) (hn : n < 115792089237316195423570985008687907853269984665640564039457584007913129639936) (hm : m < 115792089237316195423570985008687907853269984665640564039457584007913129639936) (w : World) : Calls Try.prog 30 #[.agg (PB n), .agg (PB m)] w fun e w' => e = .returned (.tuple #[.agg (PB (nO n m)), .bool (kO n m)]) ∧ Below w.heap.size w w' := by
  unfold nO
  cases h : kO n m with
  | true => exact OfD_ok n m hn hm h w
  | false => exact OfD_no n m hn hm h w
theorem Of_p (p : Pt) (w : World) : Calls Try.prog 22 #[.agg (NB p.x), .agg (NB p.y)] w fun e w' => e = .returned (.tuple #[.agg (PB (pN p)), .bool true]) ∧ Below w.heap.size w w' :=
  Of_ok (isN_NB p.x) (isN_NB p.y) (decide_eq_true p.on) w
theorem Of_k (n : Nat) (hn : n < 18446744073709551616) (w : World) : Calls Try.prog 14 #[.int .u64 n] w fun e w' => e = .returned (.agg (NB (fp n))) ∧ Below w.heap.size w w' := by
  have h := Of_any n w hn
  have e : (fp n).val = n := Nat.mod_eq_of_lt (Nat.lt_trans hn (by decide))
  have e2 : (byteVals (b32 n)).toArray = NB (fp n) := by unfold NB; rw [e]
  rw [e2] at h
  exact h
theorem Of_121665 (w : World) : Calls Try.prog 14 #[.int .u64 121665] w fun e w' => e = .returned (.agg (NB (fp 121665))) ∧ Below w.heap.size w w' := Of_k 121665 (by decide) w
theorem Of_121666 (w : World) : Calls Try.prog 14 #[.int .u64 121666] w fun e w' => e = .returned (.agg (NB (fp 121666))) ∧ Below w.heap.size w w' := Of_k 121666 (by decide) w
theorem d_known : (0 - fp 121665) * finv (fp 121666) = cD := by
  have h0 : fp 121666 ≠ 0 := fun h => absurd (congrArg Fin.val h) (by decide +kernel)
  have h1 := finv_mul h0
  have h2 : cD * fp 121666 = 0 - fp 121665 := Fin.ext (by decide +kernel)
  rw [← h2]
  generalize fp 121666 = z at h1 ⊢
  generalize cD = d
  grind
set_option maxRecDepth 100000 in
set_option maxHeartbeats 1000000 in
theorem curveOf_ok (p : Pt) (m : Nat) (hm : m < 115792089237316195423570985008687907853269984665640564039457584007913129639936) (w : World) :
    Calls Try.prog 5 #[.agg (PB (pN p)), .agg (PB m)] w fun e w' => e = .returned (.bool true) ∧ Below w.heap.size w w' := by
  have HLm := Lib.hid hm
  clear hm
  have HQ1 := Lib.hid (fun w => Of_f (pN p) m (pN_lt p) HLm.out w)
  have HQ2 := Lib.hid (fun w => OfD_f (pN p) m (pN_lt p) HLm.out w)
  have HQ3 := Lib.hid (fun w => XY_ok p w)
  have HQ4 := Lib.hid (fun w => Of_p p w)
  obtain ⟨c5, hc5⟩ : ∃ zq : Fp, zq = p.x * p.x := ⟨_, rfl⟩
  have HE5 := Lib.hid hc5
  clear hc5
  have HQ6 := Lib.hid (fun w => IsN.mul (isN_NB p.x) (isN_NB p.x) w)
  rw [← HE5.out] at HQ6
  obtain ⟨c7, hc7⟩ : ∃ zq : Fp, zq = p.y * p.y := ⟨_, rfl⟩
  have HE7 := Lib.hid hc7
  clear hc7
  have HQ8 := Lib.hid (fun w => IsN.mul (isN_NB p.y) (isN_NB p.y) w)
  rw [← HE7.out] at HQ8
  obtain ⟨c9, hc9⟩ : ∃ zq : Fp, zq = 0 - (fp 121665) := ⟨_, rfl⟩
  have HE9 := Lib.hid hc9
  clear hc9
  have HQ10 := Lib.hid (fun w => IsN.sub (isN_NB 0) (isN_NB (fp 121665)) w)
  rw [← HE9.out] at HQ10
  obtain ⟨c11, hc11⟩ : ∃ zq : Fp, zq = finv (fp 121666) := ⟨_, rfl⟩
  have HE11 := Lib.hid hc11
  clear hc11
  have HQ12 := Lib.hid (fun w => IsN.inv (isN_NB (fp 121666)) w)
  rw [← HE11.out] at HQ12
  obtain ⟨c13, hc13⟩ : ∃ zq : Fp, zq = c9 * c11 := ⟨_, rfl⟩
  have HE13 := Lib.hid hc13
  clear hc13
  have HQ14 := Lib.hid (fun w => IsN.mul (isN_NB c9) (isN_NB c11) w)
  rw [← HE13.out] at HQ14
  obtain ⟨c15, hc15⟩ : ∃ zq : Fp, zq = c7 - c5 := ⟨_, rfl⟩
  have HE15 := Lib.hid hc15
  clear hc15
  have HQ16 := Lib.hid (fun w => IsN.sub (isN_NB c7) (isN_NB c5) w)
  rw [← HE15.out] at HQ16
  obtain ⟨c17, hc17⟩ : ∃ zq : Fp, zq = c5 * c7 := ⟨_, rfl⟩
  have HE17 := Lib.hid hc17
  clear hc17
  have HQ18 := Lib.hid (fun w => IsN.mul (isN_NB c5) (isN_NB c7) w)
  rw [← HE17.out] at HQ18
  obtain ⟨c19, hc19⟩ : ∃ zq : Fp, zq = c13 * c17 := ⟨_, rfl⟩
  have HE19 := Lib.hid hc19
  clear hc19
  have HQ20 := Lib.hid (fun w => IsN.mul (isN_NB c13) (isN_NB c17) w)
  rw [← HE19.out] at HQ20
  obtain ⟨c21, hc21⟩ : ∃ zq : Fp, zq = 1 + c19 := ⟨_, rfl⟩
  have HE21 := Lib.hid hc21
  clear hc21
  have HQ22 := Lib.hid (fun w => IsN.add (isN_NB 1) (isN_NB c19) w)
  rw [← HE21.out] at HQ22
  go_enter Try.func5, Try.ntmps5
  go_upto_region 1 with fail
  generalize hW1 : World.alloc _ _ = W1
  obtain ⟨N, hN⟩ : ∃ n, w.heap.size = n := ⟨_, rfl⟩
  have HX0 := Lib.hid (show CT W1 N 23 (PB (pN p)) by subst hW1; rw [← hN]; exact (allocs2_at w _ _).1)
  have HX1 := Lib.hid (show CT W1 (N + 1) 23 (PB m) by subst hW1; rw [← hN]; exact (allocs2_at w _ _).2)
  have HB := Lib.hid (show Below N w W1 by subst hW1; rw [← hN]; exact allocs2_below w _ _)
  have HN := Lib.hid hN
  rw [hN]
  clear hW1 hN
  refine wp_region_seq 1 ?_
  simp only [List.take_succ_cons, List.take_zero, List.drop_succ_cons, List.drop_zero]
  refine upW_call (by rfl) (by rfl) (.bool true) _ rfl (by simp) (fun p => ?_) ?_
  · go_big_quiet_op
    exact ⟨_, fun q => Calls.ext_of (awake9_any q.x), rfl⟩
  simp only [Act.put, List.setIfInBounds_toArray, List.set]
  refine upW_nil (fun wr1 hbr1 => ?_)
  replace HX0 := Lib.hid (HX0.out.ext hbr1)
  replace HX1 := Lib.hid (HX1.out.ext hbr1)
  replace HB := Lib.hid (HB.out.trans (hbr1.mono (show N ≤ _ by have := HB.out.size; have := HN.out; omega)))
  clear hbr1
  go_upto_region 3 with fail
  refine wp_region_seq 6 ?_
  simp only [List.take_succ_cons, List.take_zero, List.drop_succ_cons, List.drop_zero]
  refine upW_val (by rfl) (by rfl) (by rfl) (fun K hK => quiet_load_ct _ _ rfl N rfl 23 (PB (pN p)) 32 (PB_rw (pN p)) _ HX0.out Try.underlying23 rfl (by kernel_rfl) (hK _ ?_))
  simp only [Act.put, List.setIfInBounds_toArray, List.set]
  refine upW_val (by rfl) (by rfl) (by rfl) (fun K hK => quiet_load_ct _ _ rfl (N + 1) rfl 23 (PB m) 32 (PB_rw m) _ HX1.out Try.underlying23 rfl (by kernel_rfl) (hK _ ?_))
  simp only [Act.put, List.setIfInBounds_toArray, List.set]
  refine upW_call (by rfl) (by rfl) (.tuple #[.agg (PB (nO (pN p) m)), .bool (kO (pN p) m)]) _ rfl (by simp) (fun p => ?_) ?_
  · go_big_quiet_op
    exact ⟨_, fun q => Calls.ext_of (HQ1.out q.x), rfl⟩
  simp only [Act.put, List.setIfInBounds_toArray, List.set]
  refine upW_val (by rfl) (by rfl) (by rfl) ?_
  intro K hK
  go_big_quiet_op
  refine hK _ ?_
  refine upW_late (by rfl) (.agg (PB (nO (pN p) m))) (fun _ => rfl) ?_
  simp only [Act.put, List.setIfInBounds_toArray, List.set]
  refine upW_late (by rfl) (.bool (kO (pN p) m)) (fun _ => rfl) ?_
  simp only [Act.put, List.setIfInBounds_toArray, List.set]
  refine upW_nil (fun wr2 hbr2 => ?_)
  replace HX0 := Lib.hid (HX0.out.ext hbr2)
  replace HX1 := Lib.hid (HX1.out.ext hbr2)
  replace HB := Lib.hid (HB.out.trans (hbr2.mono (show N ≤ _ by have := HB.out.size; have := HN.out; omega)))
  clear hbr2
  refine wpList_new1 rfl 24 rfl (PB 0) zPt rfl _ _ rfl rfl (PB (nO (pN p) m)) 32 (PB_rw (nO (pN p) m)) (PB_rw 0).size (by kernel_rfl) rfl rfl (fun B3 wr3 hB3 hbr3 hCB3 => ?_)
  have HB3 := Lib.hid hCB3
  have hlB3X0 : N < B3 := by rw [← hB3]; exact HX0.out.lt
  have hlB3X1 : (N + 1) < B3 := by rw [← hB3]; exact HX1.out.lt
  have hNB3 : N ≤ B3 := by rw [← hB3]; have := HB.out.size; have := HN.out; omega
  clear hB3 hCB3
  simp only [Act.put, List.setIfInBounds_toArray, List.set]
  replace HX0 := Lib.hid (HX0.out.ext hbr3)
  replace HX1 := Lib.hid (HX1.out.ext hbr3)
  replace HB := Lib.hid (HB.out.trans (hbr3.mono (show N ≤ _ by have := HB.out.size; have := HN.out; omega)))
  clear hbr3
  go_upto_region 4 with fail
  refine wp_region_seq 6 ?_
  simp only [List.take_succ_cons, List.take_zero, List.drop_succ_cons, List.drop_zero]
  refine upW_val (by rfl) (by rfl) (by rfl) (fun K hK => quiet_load_ct _ _ rfl N rfl 23 (PB (pN p)) 32 (PB_rw (pN p)) _ HX0.out Try.underlying23 rfl (by kernel_rfl) (hK _ ?_))
  simp only [Act.put, List.setIfInBounds_toArray, List.set]
  refine upW_val (by rfl) (by rfl) (by rfl) (fun K hK => quiet_load_ct _ _ rfl (N + 1) rfl 23 (PB m) 32 (PB_rw m) _ HX1.out Try.underlying23 rfl (by kernel_rfl) (hK _ ?_))
  simp only [Act.put, List.setIfInBounds_toArray, List.set]
  refine upW_call (by rfl) (by rfl) (.tuple #[.agg (PB (nO (pN p) m)), .bool (kO (pN p) m)]) _ rfl (by simp) (fun p => ?_) ?_
  · go_big_quiet_op
    exact ⟨_, fun q => Calls.ext_of (HQ2.out q.x), rfl⟩
  simp only [Act.put, List.setIfInBounds_toArray, List.set]
  refine upW_val (by rfl) (by rfl) (by rfl) ?_
  intro K hK
  go_big_quiet_op
  refine hK _ ?_
  refine upW_late (by rfl) (.agg (PB (nO (pN p) m))) (fun _ => rfl) ?_
  simp only [Act.put, List.setIfInBounds_toArray, List.set]
  refine upW_late (by rfl) (.bool (kO (pN p) m)) (fun _ => rfl) ?_
  simp only [Act.put, List.setIfInBounds_toArray, List.set]
  refine upW_nil (fun wr4 hbr4 => ?_)
  replace HX0 := Lib.hid (HX0.out.ext hbr4)
  replace HX1 := Lib.hid (HX1.out.ext hbr4)
  replace HB3 := Lib.hid (HB3.out.ext hbr4)
  replace HB := Lib.hid (HB.out.trans (hbr4.mono (show N ≤ _ by have := HB.out.size; have := HN.out; omega)))
  clear hbr4
  refine wpList_new1 rfl 23 rfl (PB 0) zBy rfl _ _ rfl rfl (PB (nO (pN p) m)) 32 (PB_rw (nO (pN p) m)) (PB_rw 0).size (by kernel_rfl) rfl rfl (fun B5 wr5 hB5 hbr5 hCB5 => ?_)
  have HB5 := Lib.hid hCB5
  have hlB5X0 : N < B5 := by rw [← hB5]; exact HX0.out.lt
  have hlB5X1 : (N + 1) < B5 := by rw [← hB5]; exact HX1.out.lt
  have hlB5B3 : B3 < B5 := by rw [← hB5]; exact HB3.out.lt
  have hNB5 : N ≤ B5 := by rw [← hB5]; have := HB.out.size; have := HN.out; omega
  clear hB5 hCB5
  simp only [Act.put, List.setIfInBounds_toArray, List.set]
  replace HX0 := Lib.hid (HX0.out.ext hbr5)
  replace HX1 := Lib.hid (HX1.out.ext hbr5)
  replace HB3 := Lib.hid (HB3.out.ext hbr5)
  replace HB := Lib.hid (HB.out.trans (hbr5.mono (show N ≤ _ by have := HB.out.size; have := HN.out; omega)))
  clear hbr5
  go_upto_region 5 with fail
  refine wp_region_seq 7 ?_
  simp only [List.take_succ_cons, List.take_zero, List.drop_succ_cons, List.drop_zero]
  refine upW_val (by rfl) (by rfl) (by rfl) (fun K hK => quiet_load_ct _ _ rfl B3 rfl 24 (PB (nO (pN p) m)) 32 (PB_rw (nO (pN p) m)) _ HB3.out Try.underlying24 rfl (by kernel_rfl) (hK _ ?_))
  simp only [Act.put, List.setIfInBounds_toArray, List.set]
  refine upW_val (by rfl) (by rfl) (by rfl) (fun K hK => quiet_load_ct _ _ rfl B5 rfl 23 (PB (nO (pN p) m)) 32 (PB_rw (nO (pN p) m)) _ HB5.out Try.underlying23 rfl (by kernel_rfl) (hK _ ?_))
  simp only [Act.put, List.setIfInBounds_toArray, List.set]
  refine upW_late (by rfl) (.bool false) (fun w => run_neP _ _ _ _ 23 rfl Try.underlying23 (nO (pN p) m) (nO (pN p) m) rfl rfl (nO_lt (pN p) m) (nO_lt (pN p) m) (by kernel_rfl) false (by rw [decide_eq_true rfl]; rfl) w) ?_
  simp only [Act.put, List.setIfInBounds_toArray, List.set]
  refine upW_val (by rfl) (by rfl) (by rfl) ?_
  intro K hK
  go_big_quiet_op
  refine hK _ ?_
  refine upW_val (by rfl) (by rfl) (by rfl) ?_
  intro K hK
  go_big_quiet_op
  refine hK _ ?_
  refine upW_val (by rfl) (by rfl) (by rfl) ?_
  intro K hK
  go_big_quiet_op
  refine hK _ ?_
  refine upW_late (by rfl) (.bool false) (fun w => run_neBo _ _ _ _ rfl (kO (pN p) m) (kO (pN p) m) rfl rfl false (by simp) w) ?_
  simp only [Act.put, List.setIfInBounds_toArray, List.set]
  refine upW_nil (fun wr6 hbr6 => ?_)
  replace HX0 := Lib.hid (HX0.out.ext hbr6)
  replace HX1 := Lib.hid (HX1.out.ext hbr6)
  replace HB3 := Lib.hid (HB3.out.ext hbr6)
  replace HB5 := Lib.hid (HB5.out.ext hbr6)
  replace HB := Lib.hid (HB.out.trans (hbr6.mono (show N ≤ _ by have := HB.out.size; have := HN.out; omega)))
  clear hbr6
  go_upto_region 7 with fail
  refine wp_region_seq 6 ?_
  simp only [List.take_succ_cons, List.take_zero, List.drop_succ_cons, List.drop_zero]
  refine upW_val (by rfl) (by rfl) (by rfl) (fun K hK => quiet_load_ct _ _ rfl N rfl 23 (PB (pN p)) 32 (PB_rw (pN p)) _ HX0.out Try.underlying23 rfl (by kernel_rfl) (hK _ ?_))
  simp only [Act.put, List.setIfInBounds_toArray, List.set]
  refine upW_call (by rfl) (by rfl) (.tuple #[.agg (NB p.x), .agg (NB p.y), .bool true]) _ rfl (by simp) (fun p => ?_) ?_
  · go_big_quiet_op
    exact ⟨_, fun q => Calls.ext_of (HQ3.out q.x), rfl⟩
  simp only [Act.put, List.setIfInBounds_toArray, List.set]
  refine upW_val (by rfl) (by rfl) (by rfl) ?_
  intro K hK
  go_big_quiet_op
  refine hK _ ?_
  refine upW_late (by rfl) (.agg (NB p.x)) (fun _ => rfl) ?_
  simp only [Act.put, List.setIfInBounds_toArray, List.set]
  refine upW_late (by rfl) (.agg (NB p.y)) (fun _ => rfl) ?_
  simp only [Act.put, List.setIfInBounds_toArray, List.set]
  refine upW_late (by rfl) (.bool true) (fun _ => rfl) ?_
  simp only [Act.put, List.setIfInBounds_toArray, List.set]
  refine upW_nil (fun wr7 hbr7 => ?_)
  replace HX0 := Lib.hid (HX0.out.ext hbr7)
  replace HX1 := Lib.hid (HX1.out.ext hbr7)
  replace HB3 := Lib.hid (HB3.out.ext hbr7)
  replace HB5 := Lib.hid (HB5.out.ext hbr7)
  replace HB := Lib.hid (HB.out.trans (hbr7.mono (show N ≤ _ by have := HB.out.size; have := HN.out; omega)))
  clear hbr7
  refine wpList_new2 rfl rfl 26 rfl rfl (NB 0) zNu rfl rfl _ _ _ _ rfl rfl (NB p.x) (NB p.y) 32 (NB_rw p.x) (NB_rw p.y) (NB_rw 0).size (by kernel_rfl) rfl rfl rfl rfl rfl rfl (fun B8a B8b wr8 hB8a hB8b hbr8 hCB8a hCB8b => ?_)
  have HB8a := Lib.hid hCB8a
  have HB8b := Lib.hid hCB8b
  have hlB8aX0 : N < B8a := by rw [← hB8a]; exact HX0.out.lt
  have hlB8bX0 : N < B8b := by omega
  have hlB8aX1 : (N + 1) < B8a := by rw [← hB8a]; exact HX1.out.lt
  have hlB8bX1 : (N + 1) < B8b := by omega
  have hlB8aB3 : B3 < B8a := by rw [← hB8a]; exact HB3.out.lt
  have hlB8bB3 : B3 < B8b := by omega
  have hlB8aB5 : B5 < B8a := by rw [← hB8a]; exact HB5.out.lt
  have hlB8bB5 : B5 < B8b := by omega
  have hNB8a : N ≤ B8a := by rw [← hB8a]; have := HB.out.size; have := HN.out; omega
  have hNB8b : N ≤ B8b := by omega
  clear hB8a hCB8a hCB8b
  simp only [Act.put, List.setIfInBounds_toArray, List.set]
  replace HX0 := Lib.hid (HX0.out.ext hbr8)
  replace HX1 := Lib.hid (HX1.out.ext hbr8)
  replace HB3 := Lib.hid (HB3.out.ext hbr8)
  replace HB5 := Lib.hid (HB5.out.ext hbr8)
  replace HB := Lib.hid (HB.out.trans (hbr8.mono (show N ≤ _ by have := HB.out.size; have := HN.out; omega)))
  clear hbr8
  go_upto_region 10 with fail
  refine wp_region_seq 6 ?_
  simp only [List.take_succ_cons, List.take_zero, List.drop_succ_cons, List.drop_zero]
  refine upW_val (by rfl) (by rfl) (by rfl) (fun K hK => quiet_load_ct _ _ rfl B8a rfl 26 (NB p.x) 32 (NB_rw p.x) _ HB8a.out Try.underlying26 rfl (by kernel_rfl) (hK _ ?_))
  simp only [Act.put, List.setIfInBounds_toArray, List.set]
  refine upW_val (by rfl) (by rfl) (by rfl) (fun K hK => quiet_load_ct _ _ rfl B8b rfl 26 (NB p.y) 32 (NB_rw p.y) _ HB8b.out Try.underlying26 rfl (by kernel_rfl) (hK _ ?_))
  simp only [Act.put, List.setIfInBounds_toArray, List.set]
  refine upW_call (by rfl) (by rfl) (.tuple #[.agg (PB (pN p)), .bool true]) _ rfl (by simp) (fun p => ?_) ?_
  · go_big_quiet_op
    exact ⟨_, fun q => Calls.ext_of (HQ4.out q.x), rfl⟩
  simp only [Act.put, List.setIfInBounds_toArray, List.set]
  refine upW_val (by rfl) (by rfl) (by rfl) ?_
  intro K hK
  go_big_quiet_op
  refine hK _ ?_
  refine upW_late (by rfl) (.agg (PB (pN p))) (fun _ => rfl) ?_
  simp only [Act.put, List.setIfInBounds_toArray, List.set]
  refine upW_late (by rfl) (.bool true) (fun _ => rfl) ?_
  simp only [Act.put, List.setIfInBounds_toArray, List.set]
  refine upW_nil (fun wr9 hbr9 => ?_)
  replace HX0 := Lib.hid (HX0.out.ext hbr9)
  replace HX1 := Lib.hid (HX1.out.ext hbr9)
  replace HB3 := Lib.hid (HB3.out.ext hbr9)
  replace HB5 := Lib.hid (HB5.out.ext hbr9)
  replace HB8a := Lib.hid (HB8a.out.ext hbr9)
  replace HB8b := Lib.hid (HB8b.out.ext hbr9)
  replace HB := Lib.hid (HB.out.trans (hbr9.mono (show N ≤ _ by have := HB.out.size; have := HN.out; omega)))
  clear hbr9
  refine wpList_new1 rfl 24 rfl (PB 0) zPt rfl _ _ rfl rfl (PB (pN p)) 32 (PB_rw (pN p)) (PB_rw 0).size (by kernel_rfl) rfl rfl (fun B10 wr10 hB10 hbr10 hCB10 => ?_)
  have HB10 := Lib.hid hCB10
  have hlB10X0 : N < B10 := by rw [← hB10]; exact HX0.out.lt
  have hlB10X1 : (N + 1) < B10 := by rw [← hB10]; exact HX1.out.lt
  have hlB10B3 : B3 < B10 := by rw [← hB10]; exact HB3.out.lt
  have hlB10B5 : B5 < B10 := by rw [← hB10]; exact HB5.out.lt
  have hlB10B8a : B8a < B10 := by rw [← hB10]; exact HB8a.out.lt
  have hlB10B8b : B8b < B10 := by rw [← hB10]; exact HB8b.out.lt
  have hNB10 : N ≤ B10 := by rw [← hB10]; have := HB.out.size; have := HN.out; omega
  clear hB10 hCB10
  simp only [Act.put, List.setIfInBounds_toArray, List.set]
  replace HX0 := Lib.hid (HX0.out.ext hbr10)
  replace HX1 := Lib.hid (HX1.out.ext hbr10)
  replace HB3 := Lib.hid (HB3.out.ext hbr10)
  replace HB5 := Lib.hid (HB5.out.ext hbr10)
  replace HB8a := Lib.hid (HB8a.out.ext hbr10)
  replace HB8b := Lib.hid (HB8b.out.ext hbr10)
  replace HB := Lib.hid (HB.out.trans (hbr10.mono (show N ≤ _ by have := HB.out.size; have := HN.out; omega)))
  clear hbr10
  go_upto_region 11 with fail
  refine wp_region_whole [0, 1, 2, 3, 4, 5] [⟨6, _, 26, (NB 0), 14, 8, _, 26, 63, (NB c5)⟩, ⟨7, _, 26, (NB 0), 15, 9, _, 26, 66, (NB c7)⟩] [9, 8, 7, 6] (by kernel_rfl) (by kernel_rfl) (List.forall_mem_cons.2 ⟨⟨⟨rfl, rfl, rfl, fun a w => alloc_run _ _ zNu a _ rfl w⟩, rfl, rfl, rfl, rfl, (NB_rw c5).info (by kernel_rfl), (NB_rw 0).same (NB_rw c5), (NB_rw c5).one⟩, (List.forall_mem_cons.2 ⟨⟨⟨rfl, rfl, rfl, fun a w => alloc_run _ _ zNu a _ rfl w⟩, rfl, rfl, rfl, rfl, (NB_rw c7).info (by kernel_rfl), (NB_rw 0).same (NB_rw c7), (NB_rw c7).one⟩, (List.forall_mem_nil _)⟩)⟩) rfl ?_
  simp only [List.foldl, List.eraseIdx_cons_succ, List.eraseIdx_cons_zero]
  refine upW_val (by rfl) (by rfl) (by rfl) (fun K hK => quiet_load_ct _ _ rfl B8a rfl 26 (NB p.x) 32 (NB_rw p.x) _ HB8a.out Try.underlying26 rfl (by kernel_rfl) (hK _ ?_))
  simp only [Act.put, List.setIfInBounds_toArray, List.set]
  refine upW_val (by rfl) (by rfl) (by rfl) (fun K hK => quiet_load_ct _ _ rfl B8a rfl 26 (NB p.x) 32 (NB_rw p.x) _ HB8a.out Try.underlying26 rfl (by kernel_rfl) (hK _ ?_))
  simp only [Act.put, List.setIfInBounds_toArray, List.set]
  refine upW_call (by rfl) (by rfl) (.agg (NB c5)) _ rfl (by simp) (fun p => ?_) ?_
  · go_big_quiet_op
    exact ⟨_, fun q => Calls.ext_of (HQ6.out q.x), rfl⟩
  simp only [Act.put, List.setIfInBounds_toArray, List.set]
  refine upW_val (by rfl) (by rfl) (by rfl) (fun K hK => quiet_load_ct _ _ rfl B8b rfl 26 (NB p.y) 32 (NB_rw p.y) _ HB8b.out Try.underlying26 rfl (by kernel_rfl) (hK _ ?_))
  simp only [Act.put, List.setIfInBounds_toArray, List.set]
  refine upW_val (by rfl) (by rfl) (by rfl) (fun K hK => quiet_load_ct _ _ rfl B8b rfl 26 (NB p.y) 32 (NB_rw p.y) _ HB8b.out Try.underlying26 rfl (by kernel_rfl) (hK _ ?_))
  simp only [Act.put, List.setIfInBounds_toArray, List.set]
  refine upW_call (by rfl) (by rfl) (.agg (NB c7)) _ rfl (by simp) (fun p => ?_) ?_
  · go_big_quiet_op
    exact ⟨_, fun q => Calls.ext_of (HQ8.out q.x), rfl⟩
  simp only [Act.put, List.setIfInBounds_toArray, List.set]
  refine upW_nil ⟨(List.forall_mem_cons.2 ⟨rfl, (List.forall_mem_cons.2 ⟨rfl, (List.forall_mem_nil _)⟩)⟩), fun M wr11 hM hne hbr11 => ?_⟩
  have hm0 := hM _ (List.mem_cons_self ..)
  have hm1 := hM _ (List.mem_cons_of_mem _ (List.mem_cons_self ..))
  have hn11x01 : M 6 ≠ M 7 := hne _ (List.mem_cons_self ..) _ (List.mem_cons_of_mem _ (List.mem_cons_self ..)) (show (6 : Nat) ≠ 7 by decide)
  clear hM hne
  simp only [List.foldr, pS, Act.put, List.setIfInBounds_toArray, List.set]
  obtain ⟨B11x0, hB11x0⟩ : ∃ m, M 6 = m := ⟨_, rfl⟩
  have HB11x0 := Lib.hid (show CT wr11 B11x0 26 (NB c5) by rw [← hB11x0]; exact hm0.2)
  have hlB11x0X0 : N < B11x0 := by rw [← hB11x0]; exact Nat.lt_of_lt_of_le HX0.out.lt hm0.1
  have hlB11x0X1 : (N + 1) < B11x0 := by rw [← hB11x0]; exact Nat.lt_of_lt_of_le HX1.out.lt hm0.1
  have hlB11x0B3 : B3 < B11x0 := by rw [← hB11x0]; exact Nat.lt_of_lt_of_le HB3.out.lt hm0.1
  have hlB11x0B5 : B5 < B11x0 := by rw [← hB11x0]; exact Nat.lt_of_lt_of_le HB5.out.lt hm0.1
  have hlB11x0B8a : B8a < B11x0 := by rw [← hB11x0]; exact Nat.lt_of_lt_of_le HB8a.out.lt hm0.1
  have hlB11x0B8b : B8b < B11x0 := by rw [← hB11x0]; exact Nat.lt_of_lt_of_le HB8b.out.lt hm0.1
  have hlB11x0B10 : B10 < B11x0 := by rw [← hB11x0]; exact Nat.lt_of_lt_of_le HB10.out.lt hm0.1
  have hNB11x0 : N ≤ B11x0 := by rw [← hB11x0]; exact Nat.le_trans (by have := HB.out.size; have := HN.out; omega) hm0.1
  obtain ⟨B11x1, hB11x1⟩ : ∃ m, M 7 = m := ⟨_, rfl⟩
  have HB11x1 := Lib.hid (show CT wr11 B11x1 26 (NB c7) by rw [← hB11x1]; exact hm1.2)
  have hlB11x1X0 : N < B11x1 := by rw [← hB11x1]; exact Nat.lt_of_lt_of_le HX0.out.lt hm1.1
  have hlB11x1X1 : (N + 1) < B11x1 := by rw [← hB11x1]; exact Nat.lt_of_lt_of_le HX1.out.lt hm1.1
  have hlB11x1B3 : B3 < B11x1 := by rw [← hB11x1]; exact Nat.lt_of_lt_of_le HB3.out.lt hm1.1
  have hlB11x1B5 : B5 < B11x1 := by rw [← hB11x1]; exact Nat.lt_of_lt_of_le HB5.out.lt hm1.1
  have hlB11x1B8a : B8a < B11x1 := by rw [← hB11x1]; exact Nat.lt_of_lt_of_le HB8a.out.lt hm1.1
  have hlB11x1B8b : B8b < B11x1 := by rw [← hB11x1]; exact Nat.lt_of_lt_of_le HB8b.out.lt hm1.1
  have hlB11x1B10 : B10 < B11x1 := by rw [← hB11x1]; exact Nat.lt_of_lt_of_le HB10.out.lt hm1.1
  have hNB11x1 : N ≤ B11x1 := by rw [← hB11x1]; exact Nat.le_trans (by have := HB.out.size; have := HN.out; omega) hm1.1
  rw [hB11x0, hB11x1] at hn11x01
  rw [hB11x0, hB11x1]
  clear hm0 hB11x0 hm1 hB11x1
  replace HX0 := Lib.hid (HX0.out.ext hbr11)
  replace HX1 := Lib.hid (HX1.out.ext hbr11)
  replace HB3 := Lib.hid (HB3.out.ext hbr11)
  replace HB5 := Lib.hid (HB5.out.ext hbr11)
  replace HB8a := Lib.hid (HB8a.out.ext hbr11)
  replace HB8b := Lib.hid (HB8b.out.ext hbr11)
  replace HB10 := Lib.hid (HB10.out.ext hbr11)
  replace HB := Lib.hid (HB.out.trans (hbr11.mono (show N ≤ _ by have := HB.out.size; have := HN.out; omega)))
  clear hbr11
  go_upto_region 12 with fail
  refine wp_region_seq 6 ?_
  simp only [List.take_succ_cons, List.take_zero, List.drop_succ_cons, List.drop_zero]
  refine upW_late (by rfl) (.agg (NB 0)) (fun w => run_built _ _ _ _ rfl _ (by kernel_rfl) w) ?_
  simp only [Act.put, List.setIfInBounds_toArray, List.set]
  refine upW_call (by rfl) (by rfl) (.agg (NB (fp 121665))) _ rfl (by simp) (fun p => ?_) ?_
  · go_big_quiet_op
    exact ⟨_, fun q => Calls.ext_of (Of_121665 q.x), rfl⟩
  simp only [Act.put, List.setIfInBounds_toArray, List.set]
  refine upW_call (by rfl) (by rfl) (.agg (NB c9)) _ rfl (by simp) (fun p => ?_) ?_
  · go_big_quiet_op
    exact ⟨_, fun q => Calls.ext_of (HQ10.out q.x), rfl⟩
  simp only [Act.put, List.setIfInBounds_toArray, List.set]
  refine upW_call (by rfl) (by rfl) (.agg (NB (fp 121666))) _ rfl (by simp) (fun p => ?_) ?_
  · go_big_quiet_op
    exact ⟨_, fun q => Calls.ext_of (Of_121666 q.x), rfl⟩
  simp only [Act.put, List.setIfInBounds_toArray, List.set]
  refine upW_call (by rfl) (by rfl) (.agg (NB c11)) _ rfl (by simp) (fun p => ?_) ?_
  · go_big_quiet_op
    exact ⟨_, fun q => Calls.ext_of (HQ12.out q.x), rfl⟩
  simp only [Act.put, List.setIfInBounds_toArray, List.set]
  refine upW_call (by rfl) (by rfl) (.agg (NB c13)) _ rfl (by simp) (fun p => ?_) ?_
  · go_big_quiet_op
    exact ⟨_, fun q => Calls.ext_of (HQ14.out q.x), rfl⟩
  simp only [Act.put, List.setIfInBounds_toArray, List.set]
  refine upW_nil (fun wr12 hbr12 => ?_)
  replace HX0 := Lib.hid (HX0.out.ext hbr12)
  replace HX1 := Lib.hid (HX1.out.ext hbr12)
  replace HB3 := Lib.hid (HB3.out.ext hbr12)
  replace HB5 := Lib.hid (HB5.out.ext hbr12)
  replace HB8a := Lib.hid (HB8a.out.ext hbr12)
  replace HB8b := Lib.hid (HB8b.out.ext hbr12)
  replace HB10 := Lib.hid (HB10.out.ext hbr12)
  replace HB11x0 := Lib.hid (HB11x0.out.ext hbr12)
  replace HB11x1 := Lib.hid (HB11x1.out.ext hbr12)
  replace HB := Lib.hid (HB.out.trans (hbr12.mono (show N ≤ _ by have := HB.out.size; have := HN.out; omega)))
  clear hbr12
  refine wpList_new1 rfl 26 rfl (NB 0) zNu rfl _ _ rfl rfl (NB c13) 32 (NB_rw c13) (NB_rw 0).size (by kernel_rfl) rfl rfl (fun B13 wr13 hB13 hbr13 hCB13 => ?_)
  have HB13 := Lib.hid hCB13
  have hlB13X0 : N < B13 := by rw [← hB13]; exact HX0.out.lt
  have hlB13X1 : (N + 1) < B13 := by rw [← hB13]; exact HX1.out.lt
  have hlB13B3 : B3 < B13 := by rw [← hB13]; exact HB3.out.lt
  have hlB13B5 : B5 < B13 := by rw [← hB13]; exact HB5.out.lt
  have hlB13B8a : B8a < B13 := by rw [← hB13]; exact HB8a.out.lt
  have hlB13B8b : B8b < B13 := by rw [← hB13]; exact HB8b.out.lt
  have hlB13B10 : B10 < B13 := by rw [← hB13]; exact HB10.out.lt
  have hlB13B11x0 : B11x0 < B13 := by rw [← hB13]; exact HB11x0.out.lt
  have hlB13B11x1 : B11x1 < B13 := by rw [← hB13]; exact HB11x1.out.lt
  have hNB13 : N ≤ B13 := by rw [← hB13]; have := HB.out.size; have := HN.out; omega
  clear hB13 hCB13
  simp only [Act.put, List.setIfInBounds_toArray, List.set]
  replace HX0 := Lib.hid (HX0.out.ext hbr13)
  replace HX1 := Lib.hid (HX1.out.ext hbr13)
  replace HB3 := Lib.hid (HB3.out.ext hbr13)
  replace HB5 := Lib.hid (HB5.out.ext hbr13)
  replace HB8a := Lib.hid (HB8a.out.ext hbr13)
  replace HB8b := Lib.hid (HB8b.out.ext hbr13)
  replace HB10 := Lib.hid (HB10.out.ext hbr13)
  replace HB11x0 := Lib.hid (HB11x0.out.ext hbr13)
  replace HB11x1 := Lib.hid (HB11x1.out.ext hbr13)
  replace HB := Lib.hid (HB.out.trans (hbr13.mono (show N ≤ _ by have := HB.out.size; have := HN.out; omega)))
  clear hbr13
  go_upto_region 13 with fail
  refine wp_region_upT 19 _ (by kernel_rfl) (by kernel_rfl) rfl (by kernel_rfl) (fun _ _ dst _ _ h => by cases dst <;> exact h) ?_
  simp only [List.take_succ_cons, List.take_zero, List.drop_succ_cons, List.drop_zero]
  refine upW_val (by rfl) (by rfl) (by rfl) ?_
  intro K hK
  go_big_quiet_op
  refine hK _ ?_
  refine upW_val (by rfl) (by rfl) (by rfl) ?_
  intro K hK
  go_big_quiet_op
  refine hK _ ?_
  refine upW_val (by rfl) (by rfl) (by rfl) (fun K hK => quiet_load_ct _ _ rfl B10 rfl 24 (PB (pN p)) 32 (PB_rw (pN p)) _ HB10.out Try.underlying24 rfl (by kernel_rfl) (hK _ ?_))
  simp only [Act.put, List.setIfInBounds_toArray, List.set]
  refine upW_val (by rfl) (by rfl) (by rfl) (fun K hK => quiet_load_ct _ _ rfl N rfl 23 (PB (pN p)) 32 (PB_rw (pN p)) _ HX0.out Try.underlying23 rfl (by kernel_rfl) (hK _ ?_))
  simp only [Act.put, List.setIfInBounds_toArray, List.set]
  refine upW_late (by rfl) (.bool true) (fun w => run_eqP _ _ _ _ 24 rfl Try.underlying24 (pN p) (pN p) rfl rfl (pN_lt p) (pN_lt p) (by kernel_rfl) true (decide_eq_true rfl) w) ?_
  simp only [Act.put, List.setIfInBounds_toArray, List.set]
  refine upW_val (by rfl) (by rfl) (by rfl) ?_
  intro K hK
  go_big_quiet_op
  refine hK _ ?_
  refine upW_val (by rfl) (by rfl) (by rfl) ?_
  intro K hK
  go_big_quiet_op
  refine hK _ ?_
  refine upW_val (by rfl) (by rfl) (by rfl) (fun K hK => quiet_load_ct _ _ rfl B11x1 rfl 26 (NB c7) 32 (NB_rw c7) _ HB11x1.out Try.underlying26 rfl (by kernel_rfl) (hK _ ?_))
  simp only [Act.put, List.setIfInBounds_toArray, List.set]
  refine upW_val (by rfl) (by rfl) (by rfl) (fun K hK => quiet_load_ct _ _ rfl B11x0 rfl 26 (NB c5) 32 (NB_rw c5) _ HB11x0.out Try.underlying26 rfl (by kernel_rfl) (hK _ ?_))
  simp only [Act.put, List.setIfInBounds_toArray, List.set]
  refine upW_call (by rfl) (by rfl) (.agg (NB c15)) _ rfl (by simp) (fun p => ?_) ?_
  · go_big_quiet_op
    exact ⟨_, fun q => Calls.ext_of (HQ16.out q.x), rfl⟩
  simp only [Act.put, List.setIfInBounds_toArray, List.set]
  refine upW_call (by rfl) (by rfl) (.agg (NB 1)) _ rfl (by simp) (fun p => ?_) ?_
  · go_big_quiet_op
    exact ⟨_, fun q => Calls.ext_of (Of_one q.x), rfl⟩
  simp only [Act.put, List.setIfInBounds_toArray, List.set]
  refine upW_val (by rfl) (by rfl) (by rfl) (fun K hK => quiet_load_ct _ _ rfl B13 rfl 26 (NB c13) 32 (NB_rw c13) _ HB13.out Try.underlying26 rfl (by kernel_rfl) (hK _ ?_))
  simp only [Act.put, List.setIfInBounds_toArray, List.set]
  refine upW_val (by rfl) (by rfl) (by rfl) (fun K hK => quiet_load_ct _ _ rfl B11x0 rfl 26 (NB c5) 32 (NB_rw c5) _ HB11x0.out Try.underlying26 rfl (by kernel_rfl) (hK _ ?_))
  simp only [Act.put, List.setIfInBounds_toArray, List.set]
  refine upW_val (by rfl) (by rfl) (by rfl) (fun K hK => quiet_load_ct _ _ rfl B11x1 rfl 26 (NB c7) 32 (NB_rw c7) _ HB11x1.out Try.underlying26 rfl (by kernel_rfl) (hK _ ?_))
  simp only [Act.put, List.setIfInBounds_toArray, List.set]
  refine upW_call (by rfl) (by rfl) (.agg (NB c17)) _ rfl (by simp) (fun p => ?_) ?_
  · go_big_quiet_op
    exact ⟨_, fun q => Calls.ext_of (HQ18.out q.x), rfl⟩
  simp only [Act.put, List.setIfInBounds_toArray, List.set]
  refine upW_call (by rfl) (by rfl) (.agg (NB c19)) _ rfl (by simp) (fun p => ?_) ?_
  · go_big_quiet_op
    exact ⟨_, fun q => Calls.ext_of (HQ20.out q.x), rfl⟩
  simp only [Act.put, List.setIfInBounds_toArray, List.set]
  refine upW_call (by rfl) (by rfl) (.agg (NB c21)) _ rfl (by simp) (fun p => ?_) ?_
  · go_big_quiet_op
    exact ⟨_, fun q => Calls.ext_of (HQ22.out q.x), rfl⟩
  simp only [Act.put, List.setIfInBounds_toArray, List.set]
  refine upW_late (by rfl) (.bool true) (fun w => run_eqP _ _ _ _ 26 rfl Try.underlying26 c15.val c21.val rfl rfl c15.lt256 c21.lt256 (by kernel_rfl) true (decide_eq_true (by simp only [HE5.out, HE7.out, HE9.out, HE11.out, HE13.out, HE15.out, HE17.out, HE19.out, HE21.out]; exact (by rw [d_known]; exact congrArg Fin.val p.on))) w) ?_
  simp only [Act.put, List.setIfInBounds_toArray, List.set]
  refine upW_val (by rfl) (by rfl) (by rfl) ?_
  intro K hK
  go_big_quiet_op
  refine hK _ ?_
  refine upW_nil (fun wr14 hbr14 => ?_)
  replace HX0 := Lib.hid (HX0.out.ext hbr14)
  replace HX1 := Lib.hid (HX1.out.ext hbr14)
  replace HB3 := Lib.hid (HB3.out.ext hbr14)
  replace HB5 := Lib.hid (HB5.out.ext hbr14)
  replace HB8a := Lib.hid (HB8a.out.ext hbr14)
  replace HB8b := Lib.hid (HB8b.out.ext hbr14)
  replace HB10 := Lib.hid (HB10.out.ext hbr14)
  replace HB11x0 := Lib.hid (HB11x0.out.ext hbr14)
  replace HB11x1 := Lib.hid (HB11x1.out.ext hbr14)
  replace HB13 := Lib.hid (HB13.out.ext hbr14)
  replace HB := Lib.hid (HB.out.trans (hbr14.mono (show N ≤ _ by have := HB.out.size; have := HN.out; omega)))
  clear hbr14
  go_wp2
  go_ret
  exact ⟨rfl, by rw [HN.out]; exact HB.out⟩
set_option maxRecDepth 100000 in
set_option maxHeartbeats 1000000 in
theorem curveOf_no (n : Nat) (hn : n < 115792089237316195423570985008687907853269984665640564039457584007913129639936) (gn : ∀ p : Pt, pN p ≠ n) (m : Nat) (hm : m < 115792089237316195423570985008687907853269984665640564039457584007913129639936) (w : World) :
    Calls Try.prog 5 #[.agg (PB n), .agg (PB m)] w fun e w' => e = .returned (.bool true) ∧ Below w.heap.size w w' := by
  have HLn := Lib.hid hn
  have HNn := Lib.hid gn
  clear hn gn
  have HLm := Lib.hid hm
  clear hm
  have HQ1 := Lib.hid (fun w => Of_f n m HLn.out HLm.out w)
  have HQ2 := Lib.hid (fun w => OfD_f n m HLn.out HLm.out w)
  have HQ3 := Lib.hid (fun w => XY_no n HLn.out HNn.out w)
  go_enter Try.func5, Try.ntmps5
  go_upto_region 1 with fail
  generalize hW1 : World.alloc _ _ = W1
  obtain ⟨N, hN⟩ : ∃ n, w.heap.size = n := ⟨_, rfl⟩
  have HX0 := Lib.hid (show CT W1 N 23 (PB n) by subst hW1; rw [← hN]; exact (allocs2_at w _ _).1)
  have HX1 := Lib.hid (show CT W1 (N + 1) 23 (PB m) by subst hW1; rw [← hN]; exact (allocs2_at w _ _).2)
  have HB := Lib.hid (show Below N w W1 by subst hW1; rw [← hN]; exact allocs2_below w _ _)
  have HN := Lib.hid hN
  rw [hN]
  clear hW1 hN
  refine wp_region_seq 1 ?_
  simp only [List.take_succ_cons, List.take_zero, List.drop_succ_cons, List.drop_zero]
  refine upW_call (by rfl) (by rfl) (.bool true) _ rfl (by simp) (fun p => ?_) ?_
  · go_big_quiet_op
    exact ⟨_, fun q => Calls.ext_of (awake9_any q.x), rfl⟩
  simp only [Act.put, List.setIfInBounds_toArray, List.set]
  refine upW_nil (fun wr1 hbr1 => ?_)
  replace HX0 := Lib.hid (HX0.out.ext hbr1)
  replace HX1 := Lib.hid (HX1.out.ext hbr1)
  replace HB := Lib.hid (HB.out.trans (hbr1.mono (show N ≤ _ by have := HB.out.size; have := HN.out; omega)))
  clear hbr1
  go_upto_region 3 with fail
  refine wp_region_seq 6 ?_
  simp only [List.take_succ_cons, List.take_zero, List.drop_succ_cons, List.drop_zero]
  refine upW_val (by rfl) (by rfl) (by rfl) (fun K hK => quiet_load_ct _ _ rfl N rfl 23 (PB n) 32 (PB_rw n) _ HX0.out Try.underlying23 rfl (by kernel_rfl) (hK _ ?_))
  simp only [Act.put, List.setIfInBounds_toArray, List.set]
  refine upW_val (by rfl) (by rfl) (by rfl) (fun K hK => quiet_load_ct _ _ rfl (N + 1) rfl 23 (PB m) 32 (PB_rw m) _ HX1.out Try.underlying23 rfl (by kernel_rfl) (hK _ ?_))
  simp only [Act.put, List.setIfInBounds_toArray, List.set]
  refine upW_call (by rfl) (by rfl) (.tuple #[.agg (PB (nO n m)), .bool (kO n m)]) _ rfl (by simp) (fun p => ?_) ?_
  · go_big_quiet_op
    exact ⟨_, fun q => Calls.ext_of (HQ1.out q.x), rfl⟩
  simp only [Act.put, List.setIfInBounds_toArray, List.set]
  refine upW_val (by rfl) (by rfl) (by rfl) ?_
  intro K hK
  go_big_quiet_op
  refine hK _ ?_
  refine upW_late (by rfl) (.agg (PB (nO n m))) (fun _ => rfl) ?_
  simp only [Act.put, List.setIfInBounds_toArray, List.set]
  refine upW_late (by rfl) (.bool (kO n m)) (fun _ => rfl) ?_
  simp only [Act.put, List.setIfInBounds_toArray, List.set]
  refine upW_nil (fun wr2 hbr2 => ?_)
  replace HX0 := Lib.hid (HX0.out.ext hbr2)
  replace HX1 := Lib.hid (HX1.out.ext hbr2)
  replace HB := Lib.hid (HB.out.trans (hbr2.mono (show N ≤ _ by have := HB.out.size; have := HN.out; omega)))
  clear hbr2
  refine wpList_new1 rfl 24 rfl (PB 0) zPt rfl _ _ rfl rfl (PB (nO n m)) 32 (PB_rw (nO n m)) (PB_rw 0).size (by kernel_rfl) rfl rfl (fun B3 wr3 hB3 hbr3 hCB3 => ?_)
  have HB3 := Lib.hid hCB3
  have hlB3X0 : N < B3 := by rw [← hB3]; exact HX0.out.lt
  have hlB3X1 : (N + 1) < B3 := by rw [← hB3]; exact HX1.out.lt
  have hNB3 : N ≤ B3 := by rw [← hB3]; have := HB.out.size; have := HN.out; omega
  clear hB3 hCB3
  simp only [Act.put, List.setIfInBounds_toArray, List.set]
  replace HX0 := Lib.hid (HX0.out.ext hbr3)
  replace HX1 := Lib.hid (HX1.out.ext hbr3)
  replace HB := Lib.hid (HB.out.trans (hbr3.mono (show N ≤ _ by have := HB.out.size; have := HN.out; omega)))
  clear hbr3
  go_upto_region 4 with fail
  refine wp_region_seq 6 ?_
  simp only [List.take_succ_cons, List.take_zero, List.drop_succ_cons, List.drop_zero]
  refine upW_val (by rfl) (by rfl) (by rfl) (fun K hK => quiet_load_ct _ _ rfl N rfl 23 (PB n) 32 (PB_rw n) _ HX0.out Try.underlying23 rfl (by kernel_rfl) (hK _ ?_))
  simp only [Act.put, List.setIfInBounds_toArray, List.set]
  refine upW_val (by rfl) (by rfl) (by rfl) (fun K hK => quiet_load_ct _ _ rfl (N + 1) rfl 23 (PB m) 32 (PB_rw m) _ HX1.out Try.underlying23 rfl (by kernel_rfl) (hK _ ?_))
  simp only [Act.put, List.setIfInBounds_toArray, List.set]
  refine upW_call (by rfl) (by rfl) (.tuple #[.agg (PB (nO n m)), .bool (kO n m)]) _ rfl (by simp) (fun p => ?_) ?_
  · go_big_quiet_op
    exact ⟨_, fun q => Calls.ext_of (HQ2.out q.x), rfl⟩
  simp only [Act.put, List.setIfInBounds_toArray, List.set]
  refine upW_val (by rfl) (by rfl) (by rfl) ?_
  intro K hK
  go_big_quiet_op
  refine hK _ ?_
  refine upW_late (by rfl) (.agg (PB (nO n m))) (fun _ => rfl) ?_
  simp only [Act.put, List.setIfInBounds_toArray, List.set]
  refine upW_late (by rfl) (.bool (kO n m)) (fun _ => rfl) ?_
  simp only [Act.put, List.setIfInBounds_toArray, List.set]
  refine upW_nil (fun wr4 hbr4 => ?_)
  replace HX0 := Lib.hid (HX0.out.ext hbr4)
  replace HX1 := Lib.hid (HX1.out.ext hbr4)
  replace HB3 := Lib.hid (HB3.out.ext hbr4)
  replace HB := Lib.hid (HB.out.trans (hbr4.mono (show N ≤ _ by have := HB.out.size; have := HN.out; omega)))
  clear hbr4
  refine wpList_new1 rfl 23 rfl (PB 0) zBy rfl _ _ rfl rfl (PB (nO n m)) 32 (PB_rw (nO n m)) (PB_rw 0).size (by kernel_rfl) rfl rfl (fun B5 wr5 hB5 hbr5 hCB5 => ?_)
  have HB5 := Lib.hid hCB5
  have hlB5X0 : N < B5 := by rw [← hB5]; exact HX0.out.lt
  have hlB5X1 : (N + 1) < B5 := by rw [← hB5]; exact HX1.out.lt
  have hlB5B3 : B3 < B5 := by rw [← hB5]; exact HB3.out.lt
  have hNB5 : N ≤ B5 := by rw [← hB5]; have := HB.out.size; have := HN.out; omega
  clear hB5 hCB5
  simp only [Act.put, List.setIfInBounds_toArray, List.set]
  replace HX0 := Lib.hid (HX0.out.ext hbr5)
  replace HX1 := Lib.hid (HX1.out.ext hbr5)
  replace HB3 := Lib.hid (HB3.out.ext hbr5)
  replace HB := Lib.hid (HB.out.trans (hbr5.mono (show N ≤ _ by have := HB.out.size; have := HN.out; omega)))
  clear hbr5
  go_upto_region 5 with fail
  refine wp_region_seq 7 ?_
  simp only [List.take_succ_cons, List.take_zero, List.drop_succ_cons, List.drop_zero]
  refine upW_val (by rfl) (by rfl) (by rfl) (fun K hK => quiet_load_ct _ _ rfl B3 rfl 24 (PB (nO n m)) 32 (PB_rw (nO n m)) _ HB3.out Try.underlying24 rfl (by kernel_rfl) (hK _ ?_))
  simp only [Act.put, List.setIfInBounds_toArray, List.set]
  refine upW_val (by rfl) (by rfl) (by rfl) (fun K hK => quiet_load_ct _ _ rfl B5 rfl 23 (PB (nO n m)) 32 (PB_rw (nO n m)) _ HB5.out Try.underlying23 rfl (by kernel_rfl) (hK _ ?_))
  simp only [Act.put, List.setIfInBounds_toArray, List.set]
  refine upW_late (by rfl) (.bool false) (fun w => run_neP _ _ _ _ 23 rfl Try.underlying23 (nO n m) (nO n m) rfl rfl (nO_lt n m) (nO_lt n m) (by kernel_rfl) false (by rw [decide_eq_true rfl]; rfl) w) ?_
  simp only [Act.put, List.setIfInBounds_toArray, List.set]
  refine upW_val (by rfl) (by rfl) (by rfl) ?_
  intro K hK
  go_big_quiet_op
  refine hK _ ?_
  refine upW_val (by rfl) (by rfl) (by rfl) ?_
  intro K hK
  go_big_quiet_op
  refine hK _ ?_
  refine upW_val (by rfl) (by rfl) (by rfl) ?_
  intro K hK
  go_big_quiet_op
  refine hK _ ?_
  refine upW_late (by rfl) (.bool false) (fun w => run_neBo _ _ _ _ rfl (kO n m) (kO n m) rfl rfl false (by simp) w) ?_
  simp only [Act.put, List.setIfInBounds_toArray, List.set]
  refine upW_nil (fun wr6 hbr6 => ?_)
  replace HX0 := Lib.hid (HX0.out.ext hbr6)
  replace HX1 := Lib.hid (HX1.out.ext hbr6)
  replace HB3 := Lib.hid (HB3.out.ext hbr6)
  replace HB5 := Lib.hid (HB5.out.ext hbr6)
  replace HB := Lib.hid (HB.out.trans (hbr6.mono (show N ≤ _ by have := HB.out.size; have := HN.out; omega)))
  clear hbr6
  go_upto_region 7 with fail
  refine wp_region_seq 6 ?_
  simp only [List.take_succ_cons, List.take_zero, List.drop_succ_cons, List.drop_zero]
  refine upW_val (by rfl) (by rfl) (by rfl) (fun K hK => quiet_load_ct _ _ rfl N rfl 23 (PB n) 32 (PB_rw n) _ HX0.out Try.underlying23 rfl (by kernel_rfl) (hK _ ?_))
  simp only [Act.put, List.setIfInBounds_toArray, List.set]
  refine upW_call (by rfl) (by rfl) (.tuple #[.agg (NB 0), .agg (NB 0), .bool false]) _ rfl (by simp) (fun p => ?_) ?_
  · go_big_quiet_op
    exact ⟨_, fun q => Calls.ext_of (HQ3.out q.x), rfl⟩
  simp only [Act.put, List.setIfInBounds_toArray, List.set]
  refine upW_val (by rfl) (by rfl) (by rfl) ?_
  intro K hK
  go_big_quiet_op
  refine hK _ ?_
  refine upW_late (by rfl) (.agg (NB 0)) (fun _ => rfl) ?_
  simp only [Act.put, List.setIfInBounds_toArray, List.set]
  refine upW_late (by rfl) (.agg (NB 0)) (fun _ => rfl) ?_
  simp only [Act.put, List.setIfInBounds_toArray, List.set]
  refine upW_late (by rfl) (.bool false) (fun _ => rfl) ?_
  simp only [Act.put, List.setIfInBounds_toArray, List.set]
  refine upW_nil (fun wr7 hbr7 => ?_)
  replace HX0 := Lib.hid (HX0.out.ext hbr7)
  replace HX1 := Lib.hid (HX1.out.ext hbr7)
  replace HB3 := Lib.hid (HB3.out.ext hbr7)
  replace HB5 := Lib.hid (HB5.out.ext hbr7)
  replace HB := Lib.hid (HB.out.trans (hbr7.mono (show N ≤ _ by have := HB.out.size; have := HN.out; omega)))
  clear hbr7
  refine wpList_new2 rfl rfl 26 rfl rfl (NB 0) zNu rfl rfl _ _ _ _ rfl rfl (NB 0) (NB 0) 32 (NB_rw 0) (NB_rw 0) (NB_rw 0).size (by kernel_rfl) rfl rfl rfl rfl rfl rfl (fun B8a B8b wr8 hB8a hB8b hbr8 hCB8a hCB8b => ?_)
  have HB8a := Lib.hid hCB8a
  have HB8b := Lib.hid hCB8b
  have hlB8aX0 : N < B8a := by rw [← hB8a]; exact HX0.out.lt
  have hlB8bX0 : N < B8b := by omega
  have hlB8aX1 : (N + 1) < B8a := by rw [← hB8a]; exact HX1.out.lt
  have hlB8bX1 : (N + 1) < B8b := by omega
  have hlB8aB3 : B3 < B8a := by rw [← hB8a]; exact HB3.out.lt
  have hlB8bB3 : B3 < B8b := by omega
  have hlB8aB5 : B5 < B8a := by rw [← hB8a]; exact HB5.out.lt
  have hlB8bB5 : B5 < B8b := by omega
  have hNB8a : N ≤ B8a := by rw [← hB8a]; have := HB.out.size; have := HN.out; omega
  have hNB8b : N ≤ B8b := by omega
  clear hB8a hCB8a hCB8b
  simp only [Act.put, List.setIfInBounds_toArray, List.set]
  replace HX0 := Lib.hid (HX0.out.ext hbr8)
  replace HX1 := Lib.hid (HX1.out.ext hbr8)
  replace HB3 := Lib.hid (HB3.out.ext hbr8)
  replace HB5 := Lib.hid (HB5.out.ext hbr8)
  replace HB := Lib.hid (HB.out.trans (hbr8.mono (show N ≤ _ by have := HB.out.size; have := HN.out; omega)))
  clear hbr8
  go_upto_region 9 with fail
  refine wp_region_seq 8 ?_
  simp only [List.take_succ_cons, List.take_zero, List.drop_succ_cons, List.drop_zero]
  refine upW_val (by rfl) (by rfl) (by rfl) (fun K hK => quiet_load_ct _ _ rfl B8a rfl 26 (NB 0) 32 (NB_rw 0) _ HB8a.out Try.underlying26 rfl (by kernel_rfl) (hK _ ?_))
  simp only [Act.put, List.setIfInBounds_toArray, List.set]
  refine upW_late (by rfl) (.agg (NB 0)) (fun w => run_built _ _ _ _ rfl _ (by kernel_rfl) w) ?_
  simp only [Act.put, List.setIfInBounds_toArray, List.set]
  refine upW_late (by rfl) (.bool true) (fun w => run_eqP _ _ _ _ 26 rfl Try.underlying26 (0 : Fp).val (0 : Fp).val rfl rfl (0 : Fp).lt256 (0 : Fp).lt256 (by kernel_rfl) true (decide_eq_true rfl) w) ?_
  simp only [Act.put, List.setIfInBounds_toArray, List.set]
  refine upW_val (by rfl) (by rfl) (by rfl) ?_
  intro K hK
  go_big_quiet_op
  refine hK _ ?_
  refine upW_val (by rfl) (by rfl) (by rfl) (fun K hK => quiet_load_ct _ _ rfl B8b rfl 26 (NB 0) 32 (NB_rw 0) _ HB8b.out Try.underlying26 rfl (by kernel_rfl) (hK _ ?_))
  simp only [Act.put, List.setIfInBounds_toArray, List.set]
  refine upW_late (by rfl) (.agg (NB 0)) (fun w => run_built _ _ _ _ rfl _ (by kernel_rfl) w) ?_
  simp only [Act.put, List.setIfInBounds_toArray, List.set]
  refine upW_late (by rfl) (.bool true) (fun w => run_eqP _ _ _ _ 26 rfl Try.underlying26 (0 : Fp).val (0 : Fp).val rfl rfl (0 : Fp).lt256 (0 : Fp).lt256 (by kernel_rfl) true (decide_eq_true rfl) w) ?_
  simp only [Act.put, List.setIfInBounds_toArray, List.set]
  refine upW_val (by rfl) (by rfl) (by rfl) ?_
  intro K hK
  go_big_quiet_op
  refine hK _ ?_
  refine upW_nil (fun wr9 hbr9 => ?_)
  replace HX0 := Lib.hid (HX0.out.ext hbr9)
  replace HX1 := Lib.hid (HX1.out.ext hbr9)
  replace HB3 := Lib.hid (HB3.out.ext hbr9)
  replace HB5 := Lib.hid (HB5.out.ext hbr9)
  replace HB8a := Lib.hid (HB8a.out.ext hbr9)
  replace HB8b := Lib.hid (HB8b.out.ext hbr9)
  replace HB := Lib.hid (HB.out.trans (hbr9.mono (show N ≤ _ by have := HB.out.size; have := HN.out; omega)))
  clear hbr9
  go_wp2
  go_ret
  exact ⟨rfl, by rw [HN.out]; exact HB.out⟩
theorem curveOf_true (a b : List UInt8) (w : World) (hla : a.length = 32) (hlb : b.length = 32) : Calls Try.prog 5 #[.agg (byteVals a).toArray, .agg (byteVals b).toArray] w fun e w' => e = .returned (.bool true) ∧ Below w.heap.size w w' := by
  have ea : (byteVals a).toArray = PB (le a) := (PB_le hla).symm
  have eb : (byteVals b).toArray = PB (le b) := (PB_le hlb).symm
  rw [ea, eb]
  by_cases h : ∃ p : Pt, pN p = le a
  · obtain ⟨p, hp⟩ := h
    rw [← hp]
    exact curveOf_ok p (le b) (le_32 b hlb) w
  · exact curveOf_no (le a) (le_32 a hla) (fun p hp => h ⟨p, hp⟩) (le b) (le_32 b hlb) w
theorem curveOf_own : ownKnob Try.prog.godebug = none := by kernel_rfl

set_option maxRecDepth 100000 in
theorem curveOf_lifted (os : Os) (started : os.Started) (H : Type) (enc : TypeId × Value → H) :
    ReturnsInHanded {} Try.checked os 5 .any (Rows.curveOfSpec.pre6 enc Try.prog Try.f5 Rows.curveOfRow.domain false) (Rows.curveOfSpec.post enc Try.prog Try.f5 false true false false) := by
  refine returnsInHanded_of_change (C := Try.checked) curveOf_own started (by kernel_rfl) Try.func5
    (ChangeSpec.witness6 (enc := enc) (C := Try.checked) false ⟨#[], #[.agg (Array.replicate 32 (.int .u8 0)), .agg (Array.replicate 32 (.int .u8 0))], []⟩ 8 (by kernel_rfl) (by kernel_rfl) (by kernel_rfl) (by kernel_rfl)) ?_
  intro W base args ds gs before hval0 hW hcnd _
  have hval : ∀ (j : Nat) t v, Try.f5.params[j]? = some t → args[j]? = some v → Value.okWide Try.prog W .any base t v := hval0
  have hW' := hW
  obtain ⟨p, q, hA0, hV, rfl, hfz, hnd⟩ := hW
  have hA : DataW.TrodAll enc Try.prog W 0 (fun _ => true) true Try.f5.params.toList args.toList ds p := hA0
  rw [Try.params5] at hA hval
  obtain ⟨v0, vs0, d0, ds0, p0, q0, hargs, rfl, rfl, h0, r0⟩ := trodAll_cons hA
  obtain ⟨v1, vs1, d1, ds1, p1, q1, rfl, rfl, rfl, h1, r1⟩ := trodAll_cons r0
  obtain ⟨rfl, rfl, rfl⟩ := trodAll_nil r1
  obtain rfl : args = #[v0, v1] := by cases args; simp_all
  obtain ⟨rfl, rfl⟩ := trodVars_none hV
  obtain ⟨a0, hl0, rfl, rfl, rfl⟩ := open_arr8 Try.underlying23 Try.underlying5 (by kernel_rfl) (by kernel_rfl) (hval 0 23 v0 rfl rfl) h0
  obtain ⟨a1, hl1, rfl, rfl, rfl⟩ := open_arr8 Try.underlying23 Try.underlying5 (by kernel_rfl) (by kernel_rfl) (hval 1 23 v1 rfl rfl) h1
  clear hA0 hval0
  simp only [List.append_nil] at hW'
  refine (curveOf_true a0 a1 W hl0 hl1).mono fun e W' ⟨he, bel⟩ => ?_
  subst he
  exact ⟨_, rfl, _, _, _, [], [], [], hW', trodAll_mk1 (shut_bool Try.underlying4 _), (trodAll_cons_mk (shut_arr8 Try.underlying23 Try.underlying5 (by kernel_rfl) (by kernel_rfl) a0 hl0) (trodAll_cons_mk (shut_arr8 Try.underlying23 Try.underlying5 (by kernel_rfl) (by kernel_rfl) a1 hl1) trodAll_mk0)), rfl, bel.frame _, fun h => by cases h⟩

theorem curveOf_holds : Rows.CurveOfSaid :=
  OpenClaim.holds_of_wide 5 Try.f5 rfl rfl rfl rfl rfl rfl rfl ⟨rfl, rfl, rfl, rfl, rfl⟩ rfl rfl rfl rfl rfl (by kernel_rfl) Try.func5 (by kernel_rfl)
    (of_decide_eq_true (by kernel_rfl)) (by unfold Func.isWrapper; first | (rw [if_pos (by decide +kernel)]; kernel_rfl) | (rw [if_neg (by decide +kernel)]; exact ⟨rfl, rfl⟩))
    (fun os started H enc _ => curveOf_lifted os started H enc)
#print axioms curveOf_holds

end Go.Proofs.Ytfmclkmmkceldaa
