/-
  What the laws of curve ask ahead: awake; what they compare; points of three numbers.
  Conditions: none.
-/
import Derived.Test.YtfmclkmmkceldaaCvV
import Derived.Test.YtfmclkmmkceldaaScH
namespace Go.Proofs.Ytfmclkmmkceldaa
open Go.RowKit

set_option linter.unusedSimpArgs false
set_option linter.unusedVariables false
theorem run_eqP (o : Oper) (ax : Act) (x y : Operand) (t : TypeId) (ho : o.op = .binOp .eql t x y t) (hu : Try.prog.underlying t = some (.array 32 5)) (n m : Nat) (hx : ax.eval x = .agg (PB n)) (hy : ax.eval y = .agg (PB m)) (hn : n < 115792089237316195423570985008687907853269984665640564039457584007913129639936) (hm : m < 115792089237316195423570985008687907853269984665640564039457584007913129639936) (hg : Try.prog.eqGuardType Try.prog.depth t = false) (b : Bool) (hb : decide (n = m) = b) (w : World) :
    (execOp ax.eval o).run Try.prog w = .ok (.value (.bool b)) w :=
  run_eqB o ax x y t ho hu (b32 n) (b32 m) hx hy (b32_len _) (b32_len _) hg b (by
    rw [← hb, Bool.eq_iff_iff, decide_eq_true_eq, decide_eq_true_eq]
    exact ⟨fun h => b32_inj hn hm h, fun h => by rw [h]⟩) w
theorem run_neP (o : Oper) (ax : Act) (x y : Operand) (t : TypeId) (ho : o.op = .binOp .neq t x y t) (hu : Try.prog.underlying t = some (.array 32 5)) (n m : Nat) (hx : ax.eval x = .agg (PB n)) (hy : ax.eval y = .agg (PB m)) (hn : n < 115792089237316195423570985008687907853269984665640564039457584007913129639936) (hm : m < 115792089237316195423570985008687907853269984665640564039457584007913129639936) (hg : Try.prog.eqGuardType Try.prog.depth t = false) (b : Bool) (hb : (!decide (n = m)) = b) (w : World) :
    (execOp ax.eval o).run Try.prog w = .ok (.value (.bool b)) w :=
  run_neB o ax x y t ho hu (b32 n) (b32 m) hx hy (b32_len _) (b32_len _) hg b (by
    have e : decide (b32 n = b32 m) = decide (n = m) := by
      rw [Bool.eq_iff_iff, decide_eq_true_eq, decide_eq_true_eq]
      exact ⟨fun h => b32_inj hn hm h, fun h => by rw [h]⟩
    rw [e]; exact hb) w
theorem run_eqBo (o : Oper) (ax : Act) (x y : Operand) (ho : o.op = .binOp .eql 4 x y 4) (a b : Bool) (hx : ax.eval x = .bool a) (hy : ax.eval y = .bool b) (c : Bool) (hc : (a == b) = c) (w : World) : (execOp ax.eval o).run Try.prog w = .ok (.value (.bool c)) w := by
  unfold execOp
  simp only [ho, hx, hy]
  subst hc
  cases a <;> cases b <;> kernel_rfl
theorem run_neBo (o : Oper) (ax : Act) (x y : Operand) (ho : o.op = .binOp .neq 4 x y 4) (a b : Bool) (hx : ax.eval x = .bool a) (hy : ax.eval y = .bool b) (c : Bool) (hc : (!(a == b)) = c) (w : World) : (execOp ax.eval o).run Try.prog w = .ok (.value (.bool c)) w := by
  unfold execOp
  simp only [ho, hx, hy]
  subst hc
  cases a <;> cases b <;> kernel_rfl
theorem run_eq8 (o : Oper) (ax : Act) (x y : Operand) (ho : o.op = .binOp .eql 5 x y 5) (a b : Int) (hx : ax.eval x = .int .u8 a) (hy : ax.eval y = .int .u8 b) (c : Bool) (hc : (a == b) = c) (w : World) : (execOp ax.eval o).run Try.prog w = .ok (.value (.bool c)) w := by
  have hu := Try.underlying5
  unfold execOp
  simp only [ho, hx, hy]
  simp [go_sem, ← hc]
theorem pN_zero : pN pzero = 1 := by decide +kernel
theorem Zero_pt (w : World) : Calls Try.prog 12 #[] w fun e w' => e = .returned (.agg (PB (pN pzero))) ∧ Below w.heap.size w w' := by
  rw [pN_zero]; exact Zero_any w
theorem Base_pt (w : World) : Calls Try.prog 19 #[] w fun e w' => e = .returned (.agg (PB (pN cB))) ∧ Below w.heap.size w w' := Base_any w
theorem oL_lt (n : Nat) : n % LL < 115792089237316195423570985008687907853269984665640564039457584007913129639936 := Nat.lt_trans (Nat.mod_lt _ (by decide)) (by decide)
set_option maxRecDepth 100000 in
set_option maxHeartbeats 1000000 in
theorem ell_any (w : World) :
    Calls Try.prog 36 #[] w fun e w' => e = .returned (.agg (PB LL)) ∧ Below w.heap.size w w' := by
  have hz0 := zSc
  go_enter Try.func36, Try.ntmps36
  go_upto_region 1 with fail
  generalize hW1 : World.alloc _ _ = W1
  obtain ⟨N, hN⟩ : ∃ n, w.heap.size = n := ⟨_, rfl⟩
  have HX0 := Lib.hid (show CT W1 N 34 (PB 0) by subst hW1; rw [← hN]; exact (allocs1_at w _))
  have HB := Lib.hid (show Below N w W1 by subst hW1; rw [← hN]; exact allocs1_below w _)
  have HN := Lib.hid hN
  rw [hN]
  clear hW1 hN
  refine wp_region_seq 1 ?_
  simp only [List.take_succ_cons, List.take_zero, List.drop_succ_cons, List.drop_zero]
  refine upW_late (by rfl) (.agg (PB LL)) (fun w => run_built _ _ _ _ rfl _ (by kernel_rfl) w) ?_
  simp only [Act.put, List.setIfInBounds_toArray, List.set]
  refine upW_nil (fun wr1 hbr1 => ?_)
  replace HX0 := Lib.hid (HX0.out.ext hbr1)
  replace HB := Lib.hid (HB.out.trans (hbr1.mono (show N ≤ _ by have := HB.out.size; have := HN.out; omega)))
  clear hbr1
  refine wpList_store_ct rfl 34 _ _ rfl N (PB LL) rfl rfl 34 (PB 0) 32 HX0.out (by kernel_rfl) (PB_rw 0) (PB_rw LL) rfl (fun wr2 hSwr2 hOwr2 hWwr2 => ?_)
  replace HX0 := Lib.hid hSwr2
  replace HB := Lib.hid (hWwr2 _ _ HB.out (by omega))
  clear hSwr2 hOwr2 hWwr2
  go_wp2
  refine bodyPost_ret (results_ct (by rfl) _ _ N 34 (PB LL) 32 _ (by rfl) HX0.out (PB_rw LL) Try.underlying34 rfl (by kernel_rfl)) rfl ⟨by first | rfl | (rfl), by rw [HN.out]; exact HB.out⟩
set_option maxRecDepth 100000 in
set_option maxHeartbeats 1000000 in
theorem awake9_any (w : World) :
    Calls Try.prog 11 #[] w fun e w' => e = .returned (.bool true) ∧ Below w.heap.size w w' := by
  obtain ⟨q1, hq1⟩ : ∃ q : Pt, q = ptimes LL cB := ⟨_, rfl⟩
  have HE1 := Lib.hid hq1
  clear hq1
  have HQ2 := Lib.hid (fun w => Times_ok LL (by decide) cB w)
  rw [← HE1.out] at HQ2
  have HQ3 := Lib.hid (fun w => Good_ok cB w)
  have hz0 := zPt
  go_enter Try.func11, Try.ntmps11
  go_upto_region 1 with fail
  have HB := Lib.hid (Below.refl w.heap.size w)
  obtain ⟨N, hN⟩ : ∃ n, w.heap.size = n := ⟨_, rfl⟩
  rw [hN] at HB
  have HN := Lib.hid hN
  clear hN
  refine wp_region_seq 6 ?_
  simp only [List.take_succ_cons, List.take_zero, List.drop_succ_cons, List.drop_zero]
  refine upW_call (by rfl) (by rfl) (.agg (PB LL)) _ rfl (by simp) (fun p => ?_) ?_
  · go_big_quiet_op
    exact ⟨_, fun q => Calls.ext_of (ell_any q.x), rfl⟩
  simp only [Act.put, List.setIfInBounds_toArray, List.set]
  refine upW_call (by rfl) (by rfl) (.agg (PB (pN cB))) _ rfl (by simp) (fun p => ?_) ?_
  · go_big_quiet_op
    exact ⟨_, fun q => Calls.ext_of (Base_pt q.x), rfl⟩
  simp only [Act.put, List.setIfInBounds_toArray, List.set]
  refine upW_call (by rfl) (by rfl) (.tuple #[.agg (PB (pN q1)), .bool true]) _ rfl (by simp) (fun p => ?_) ?_
  · go_big_quiet_op
    exact ⟨_, fun q => Calls.ext_of (HQ2.out q.x), rfl⟩
  simp only [Act.put, List.setIfInBounds_toArray, List.set]
  refine upW_val (by rfl) (by rfl) (by rfl) ?_
  intro K hK
  go_big_quiet_op
  refine hK _ ?_
  refine upW_late (by rfl) (.agg (PB (pN q1))) (fun _ => rfl) ?_
  simp only [Act.put, List.setIfInBounds_toArray, List.set]
  refine upW_late (by rfl) (.bool true) (fun _ => rfl) ?_
  simp only [Act.put, List.setIfInBounds_toArray, List.set]
  refine upW_nil (fun wr1 hbr1 => ?_)
  replace HB := Lib.hid (HB.out.trans (hbr1.mono (show N ≤ _ by have := HB.out.size; have := HN.out; omega)))
  clear hbr1
  refine wpList_new1 rfl 24 rfl (PB 0) zPt rfl _ _ rfl rfl (PB (pN q1)) 32 (PB_rw (pN q1)) (PB_rw 0).size (by kernel_rfl) rfl rfl (fun B2 wr2 hB2 hbr2 hCB2 => ?_)
  have HB2 := Lib.hid hCB2
  have hNB2 : N ≤ B2 := by rw [← hB2]; have := HB.out.size; have := HN.out; omega
  clear hB2 hCB2
  simp only [Act.put, List.setIfInBounds_toArray, List.set]
  replace HB := Lib.hid (HB.out.trans (hbr2.mono (show N ≤ _ by have := HB.out.size; have := HN.out; omega)))
  clear hbr2
  go_upto_region 2 with fail
  refine wp_region_seq 1 ?_
  simp only [List.take_succ_cons, List.take_zero, List.drop_succ_cons, List.drop_zero]
  refine upW_call (by rfl) (by rfl) (.agg (PB (pN cB))) _ rfl (by simp) (fun p => ?_) ?_
  · go_big_quiet_op
    exact ⟨_, fun q => Calls.ext_of (Base_pt q.x), rfl⟩
  simp only [Act.put, List.setIfInBounds_toArray, List.set]
  refine upW_nil (fun wr3 hbr3 => ?_)
  replace HB2 := Lib.hid (HB2.out.ext hbr3)
  replace HB := Lib.hid (HB.out.trans (hbr3.mono (show N ≤ _ by have := HB.out.size; have := HN.out; omega)))
  clear hbr3
  refine wpList_new1 rfl 24 rfl (PB 0) zPt rfl _ _ rfl rfl (PB (pN cB)) 32 (PB_rw (pN cB)) (PB_rw 0).size (by kernel_rfl) rfl rfl (fun B4 wr4 hB4 hbr4 hCB4 => ?_)
  have HB4 := Lib.hid hCB4
  have hlB4B2 : B2 < B4 := by rw [← hB4]; exact HB2.out.lt
  have hNB4 : N ≤ B4 := by rw [← hB4]; have := HB.out.size; have := HN.out; omega
  clear hB4 hCB4
  simp only [Act.put, List.setIfInBounds_toArray, List.set]
  replace HB2 := Lib.hid (HB2.out.ext hbr4)
  replace HB := Lib.hid (HB.out.trans (hbr4.mono (show N ≤ _ by have := HB.out.size; have := HN.out; omega)))
  clear hbr4
  go_upto_region 3 with fail
  refine wp_region_upT 30 _ (by kernel_rfl) (by kernel_rfl) rfl (by kernel_rfl) (fun _ _ dst _ _ h => by cases dst <;> exact h) ?_
  simp only [List.take_succ_cons, List.take_zero, List.drop_succ_cons, List.drop_zero]
  refine upW_val (by rfl) (by rfl) (by rfl) ?_
  intro K hK
  go_big_quiet_op
  refine hK _ ?_
  refine upW_val (by rfl) (by rfl) (by rfl) ?_
  intro K hK
  go_big_quiet_op
  refine hK _ ?_
  refine upW_val (by rfl) (by rfl) (by rfl) (fun K hK => quiet_load_ct _ _ rfl B2 rfl 24 (PB (pN q1)) 32 (PB_rw (pN q1)) _ HB2.out Try.underlying24 rfl (by kernel_rfl) (hK _ ?_))
  simp only [Act.put, List.setIfInBounds_toArray, List.set]
  refine upW_call (by rfl) (by rfl) (.agg (PB (pN pzero))) _ rfl (by simp) (fun p => ?_) ?_
  · go_big_quiet_op
    exact ⟨_, fun q => Calls.ext_of (Zero_pt q.x), rfl⟩
  simp only [Act.put, List.setIfInBounds_toArray, List.set]
  refine upW_late (by rfl) (.bool true) (fun w => run_eqP _ _ _ _ 24 rfl Try.underlying24 (pN q1) (pN pzero) rfl rfl (pN_lt q1) (pN_lt pzero) (by kernel_rfl) true (decide_eq_true (congrArg pN (by simp only [HE1.out]; exact LB))) w) ?_
  simp only [Act.put, List.setIfInBounds_toArray, List.set]
  refine upW_val (by rfl) (by rfl) (by rfl) ?_
  intro K hK
  go_big_quiet_op
  refine hK _ ?_
  refine upW_val (by rfl) (by rfl) (by rfl) ?_
  intro K hK
  go_big_quiet_op
  refine hK _ ?_
  refine upW_late (by rfl) (.pointer (some ⟨B4, 0, none⟩)) (fun _ => by kernel_rfl) ?_
  simp only [Act.put, List.setIfInBounds_toArray, List.set]
  refine upW_val (by rfl) (by rfl) (by rfl) (fun K hK => quiet_load_byte _ rfl B4 0 rfl 24 (PB (pN cB)) HB4.out (.int .u8 88) (by kernel_rfl) (hK _ ?_))
  simp only [Act.put, List.setIfInBounds_toArray, List.set]
  refine upW_late (by rfl) (.bool true) (fun w => run_eq8 _ _ _ _ rfl 88 88 rfl rfl true (by decide) w) ?_
  simp only [Act.put, List.setIfInBounds_toArray, List.set]
  refine upW_val (by rfl) (by rfl) (by rfl) ?_
  intro K hK
  go_big_quiet_op
  refine hK _ ?_
  refine upW_val (by rfl) (by rfl) (by rfl) ?_
  intro K hK
  go_big_quiet_op
  refine hK _ ?_
  refine upW_late (by rfl) (.pointer (some ⟨B4, 1, none⟩)) (fun _ => by kernel_rfl) ?_
  simp only [Act.put, List.setIfInBounds_toArray, List.set]
  refine upW_val (by rfl) (by rfl) (by rfl) (fun K hK => quiet_load_byte _ rfl B4 1 rfl 24 (PB (pN cB)) HB4.out (.int .u8 102) (by kernel_rfl) (hK _ ?_))
  simp only [Act.put, List.setIfInBounds_toArray, List.set]
  refine upW_late (by rfl) (.bool true) (fun w => run_eq8 _ _ _ _ rfl 102 102 rfl rfl true (by decide) w) ?_
  simp only [Act.put, List.setIfInBounds_toArray, List.set]
  refine upW_val (by rfl) (by rfl) (by rfl) ?_
  intro K hK
  go_big_quiet_op
  refine hK _ ?_
  refine upW_val (by rfl) (by rfl) (by rfl) ?_
  intro K hK
  go_big_quiet_op
  refine hK _ ?_
  refine upW_late (by rfl) (.pointer (some ⟨B4, 31, none⟩)) (fun _ => by kernel_rfl) ?_
  simp only [Act.put, List.setIfInBounds_toArray, List.set]
  refine upW_val (by rfl) (by rfl) (by rfl) (fun K hK => quiet_load_byte _ rfl B4 31 rfl 24 (PB (pN cB)) HB4.out (.int .u8 102) (by kernel_rfl) (hK _ ?_))
  simp only [Act.put, List.setIfInBounds_toArray, List.set]
  refine upW_late (by rfl) (.bool true) (fun w => run_eq8 _ _ _ _ rfl 102 102 rfl rfl true (by decide) w) ?_
  simp only [Act.put, List.setIfInBounds_toArray, List.set]
  refine upW_val (by rfl) (by rfl) (by rfl) ?_
  intro K hK
  go_big_quiet_op
  refine hK _ ?_
  refine upW_val (by rfl) (by rfl) (by rfl) ?_
  intro K hK
  go_big_quiet_op
  refine hK _ ?_
  refine upW_val (by rfl) (by rfl) (by rfl) (fun K hK => quiet_load_ct _ _ rfl B4 rfl 24 (PB (pN cB)) 32 (PB_rw (pN cB)) _ HB4.out Try.underlying24 rfl (by kernel_rfl) (hK _ ?_))
  simp only [Act.put, List.setIfInBounds_toArray, List.set]
  refine upW_call (by rfl) (by rfl) (.bool true) _ rfl (by simp) (fun p => ?_) ?_
  · go_big_quiet_op
    exact ⟨_, fun q => Calls.ext_of (HQ3.out q.x), rfl⟩
  simp only [Act.put, List.setIfInBounds_toArray, List.set]
  refine upW_val (by rfl) (by rfl) (by rfl) ?_
  intro K hK
  go_big_quiet_op
  refine hK _ ?_
  refine upW_val (by rfl) (by rfl) (by rfl) ?_
  intro K hK
  go_big_quiet_op
  refine hK _ ?_
  refine upW_call (by rfl) (by rfl) (.agg (PB (pN pzero))) _ rfl (by simp) (fun p => ?_) ?_
  · go_big_quiet_op
    exact ⟨_, fun q => Calls.ext_of (Zero_pt q.x), rfl⟩
  simp only [Act.put, List.setIfInBounds_toArray, List.set]
  refine upW_late (by rfl) (.int .u8 1) (fun _ => by kernel_rfl) ?_
  simp only [Act.put, List.setIfInBounds_toArray, List.set]
  refine upW_late (by rfl) (.bool true) (fun w => run_eq8 _ _ _ _ rfl 1 1 rfl rfl true (by decide) w) ?_
  simp only [Act.put, List.setIfInBounds_toArray, List.set]
  refine upW_val (by rfl) (by rfl) (by rfl) ?_
  intro K hK
  go_big_quiet_op
  refine hK _ ?_
  refine upW_nil (fun wr5 hbr5 => ?_)
  replace HB2 := Lib.hid (HB2.out.ext hbr5)
  replace HB4 := Lib.hid (HB4.out.ext hbr5)
  replace HB := Lib.hid (HB.out.trans (hbr5.mono (show N ≤ _ by have := HB.out.size; have := HN.out; omega)))
  clear hbr5
  go_wp2
  go_ret
  exact ⟨by first | rfl | (simp only [HE1.out]), by rw [HN.out]; exact HB.out⟩
end Go.Proofs.Ytfmclkmmkceldaa
