/-
  Points of three numbers.
  Conditions: none.
-/
import Derived.Test.YtfmclkmmkceldaaCvA
namespace Go.Proofs.Ytfmclkmmkceldaa
open Go.RowKit

set_option linter.unusedSimpArgs false
set_option linter.unusedVariables false
/-- How often the point of eight is added. -/
def sT (t : Int) : Nat := (t % 18446744073709551616 % 8).toNat
theorem sT_lt (t : Int) : sT t < 8 := by unfold sT; omega
/-- A point of three numbers. -/
noncomputable def sP (k : Nat) (t : Int) : Pt := padd (ptimes k cB) (ptimes (sT t) cT)
theorem run_toU (o : Oper) (ax : Act) (x : Operand) (ho : o.op = .convert 3 102 x) (a : Int) (hx : ax.eval x = .int .i64 a) (w : World) : (execOp ax.eval o).run Try.prog w = .ok (.value (.int .u64 (a % 18446744073709551616))) w := by
  have h1 := Try.underlying3
  have h2 := Try.underlying102
  unfold execOp
  simp only [ho, hx]
  simp [go_sem]
  rfl
theorem run_rem8 (o : Oper) (ax : Act) (x y : Operand) (ho : o.op = .binOp .rem 102 x y 102) (a : Int) (h0 : 0 ≤ a) (h1 : a < 18446744073709551616) (hx : ax.eval x = .int .u64 a) (hy : ax.eval y = .int .u64 8) (w : World) : (execOp ax.eval o).run Try.prog w = .ok (.value (.int .u64 (a % 8))) w := by
  have h2 := Try.underlying102
  unfold execOp
  simp only [ho, hx, hy]
  simp [go_sem]
  exact Int.tmod_eq_emod_of_nonneg h0
theorem i64_wrap_id {a : Int} (h0 : 0 ≤ a) (h1 : a < 8) : IntKind.i64.wrap a = a := by
  have : ∀ n : Fin 8, IntKind.i64.wrap (n.val : Int) = (n.val : Int) := by decide
  have h := this ⟨a.toNat, by omega⟩
  have e : ((a.toNat : Nat) : Int) = a := by omega
  simp only [e] at h
  exact h
theorem run_toI (o : Oper) (ax : Act) (x : Operand) (ho : o.op = .convert 102 3 x) (a : Int) (h0 : 0 ≤ a) (h1 : a < 8) (hx : ax.eval x = .int .u64 a) (w : World) : (execOp ax.eval o).run Try.prog w = .ok (.value (.int .i64 a)) w := by
  have h2 := Try.underlying3
  have h3 := Try.underlying102
  unfold execOp
  simp only [ho, hx]
  simp [go_sem]
  exact i64_wrap_id h0 h1
def quo8 (t : Int) : Int := IntKind.i64.wrap (t.tdiv 8)
theorem run_quo8 (o : Oper) (ax : Act) (x y : Operand) (ho : o.op = .binOp .quo 3 x y 3) (t : Int) (hx : ax.eval x = .int .i64 t) (hy : ax.eval y = .int .i64 8) (w : World) : (execOp ax.eval o).run Try.prog w = .ok (.value (.int .i64 (quo8 t))) w := by
  have h1 := Try.underlying3
  unfold execOp quo8
  simp only [ho, hx, hy]
  simp [go_sem]
theorem run_rem8' (o : Oper) (ax : Act) (x y : Operand) (ho : o.op = .binOp .rem 102 x y 102) (t : Int) (hx : ax.eval x = .int .u64 (t % 18446744073709551616)) (hy : ax.eval y = .int .u64 8) (w : World) : (execOp ax.eval o).run Try.prog w = .ok (.value (.int .u64 ((sT t : Nat) : Int))) w := by
  have h := run_rem8 o ax x y ho (t % 18446744073709551616) (by omega) (by omega) hx hy w
  rw [show ((sT t : Nat) : Int) = t % 18446744073709551616 % 8 by unfold sT; omega]
  exact h
set_option maxRecDepth 100000 in
set_option maxHeartbeats 1000000 in
theorem some_any (k : Nat) (hk : k < 115792089237316195423570985008687907853269984665640564039457584007913129639936) (turn : Int) (w : World) :
    Calls Try.prog 32 #[.agg (PB k), .int .i64 turn] w fun e w' => e = .returned (.tuple #[.agg (PB (pN (sP k turn))), .bool true]) ∧ Below w.heap.size w w' := by
  have HLk := Lib.hid hk
  clear hk
  have HT2 := Lib.hid (show (0 : Int) ≤ ((sT turn : Nat) : Int) by omega)
  have HT3 := Lib.hid (show ((sT turn : Nat) : Int) < 8 by have := sT_lt turn; omega)
  obtain ⟨q1, hq1⟩ : ∃ zp : Pt, zp = ptimes k cB := ⟨_, rfl⟩
  have HE1 := Lib.hid hq1
  clear hq1
  have HQ2 := Lib.hid (fun w => Times_ok k HLk.out cB w)
  rw [← HE1.out] at HQ2
  have hz0 := zPt
  go_enter Try.func32, Try.ntmps32
  go_upto_region 1 with fail
  generalize hW1 : World.alloc _ _ = W1
  obtain ⟨N, hN⟩ : ∃ n, w.heap.size = n := ⟨_, rfl⟩
  have HX0 := Lib.hid (show CT W1 N 23 (PB k) by subst hW1; rw [← hN]; exact (allocs2_at w _ _).1)
  have HX1 := Lib.hid (show CT W1 (N + 1) 24 (PB 0) by subst hW1; rw [← hN]; exact (allocs2_at w _ _).2)
  have HB := Lib.hid (show Below N w W1 by subst hW1; rw [← hN]; exact allocs2_below w _ _)
  have HN := Lib.hid hN
  rw [hN]
  clear hW1 hN
  refine wp_region_whole [0, 1, 2, 3, 4, 5, 8] [⟨6, _, 24, (PB 0), 6, 7, _, 24, 14, (PB (pN q1))⟩] [7, 6] (by kernel_rfl) (by kernel_rfl) (List.forall_mem_cons.2 ⟨⟨⟨rfl, rfl, rfl, fun a w => alloc_run _ _ zPt a _ rfl w⟩, rfl, rfl, rfl, rfl, (PB_rw (pN q1)).info (by kernel_rfl), (PB_rw 0).same (PB_rw (pN q1)), (PB_rw (pN q1)).one⟩, (List.forall_mem_nil _)⟩) rfl ?_
  simp only [List.foldl, List.eraseIdx_cons_succ, List.eraseIdx_cons_zero]
  refine upW_val (by rfl) (by rfl) (by rfl) (fun K hK => quiet_load_ct _ _ rfl N rfl 23 (PB k) 32 (PB_rw k) _ HX0.out Try.underlying23 rfl (by kernel_rfl) (hK _ ?_))
  simp only [Act.put, List.setIfInBounds_toArray, List.set]
  refine upW_call (by rfl) (by rfl) (.agg (PB (pN cB))) _ rfl (by simp) (fun p => ?_) ?_
  · go_big_quiet_op
    exact ⟨_, fun q => Calls.ext_of (Base_pt q.x), rfl⟩
  simp only [Act.put, List.setIfInBounds_toArray, List.set]
  refine upW_call (by rfl) (by rfl) (.tuple #[.agg (PB (pN q1)), .bool true]) _ rfl (by simp) (fun p => ?_) ?_
  · go_big_quiet_op
    exact ⟨_, fun q => Calls.ext_of (HQ2.out q.x), rfl⟩
  simp only [Act.put, List.setIfInBounds_toArray, List.set]
  refine upW_val (by rfl) (by rfl) (by rfl) ?_
  intro K hK
  go_big_quiet_op
  refine hK _ ?_
  refine upW_late (by rfl) (.agg (PB (pN q1))) (fun _ => rfl) ?_
  simp only [Act.put, List.setIfInBounds_toArray, List.set]
  refine upW_late (by rfl) (.bool true) (fun _ => rfl) ?_
  simp only [Act.put, List.setIfInBounds_toArray, List.set]
  refine upW_val (by rfl) (by rfl) (by rfl) ?_
  intro K hK
  go_big_quiet_op
  refine hK _ ?_
  refine upW_nil ⟨(List.forall_mem_cons.2 ⟨rfl, (List.forall_mem_nil _)⟩), fun M wr1 hM hne hbr1 => ?_⟩
  have hm0 := hM _ (List.mem_cons_self ..)
  clear hM hne
  simp only [List.foldr, pS, Act.put, List.setIfInBounds_toArray, List.set]
  obtain ⟨B1x0, hB1x0⟩ : ∃ m, M 6 = m := ⟨_, rfl⟩
  have HB1x0 := Lib.hid (show CT wr1 B1x0 24 (PB (pN q1)) by rw [← hB1x0]; exact hm0.2)
  have hlB1x0X0 : N < B1x0 := by rw [← hB1x0]; exact Nat.lt_of_lt_of_le HX0.out.lt hm0.1
  have hlB1x0X1 : (N + 1) < B1x0 := by rw [← hB1x0]; exact Nat.lt_of_lt_of_le HX1.out.lt hm0.1
  have hNB1x0 : N ≤ B1x0 := by rw [← hB1x0]; exact Nat.le_trans (by have := HB.out.size; have := HN.out; omega) hm0.1
  rw [hB1x0]
  clear hm0 hB1x0
  replace HX0 := Lib.hid (HX0.out.ext hbr1)
  replace HX1 := Lib.hid (HX1.out.ext hbr1)
  replace HB := Lib.hid (HB.out.trans (hbr1.mono (show N ≤ _ by have := HB.out.size; have := HN.out; omega)))
  clear hbr1
  go_upto_region 2 with fail
  refine wp_region_seq 1 ?_
  simp only [List.take_succ_cons, List.take_zero, List.drop_succ_cons, List.drop_zero]
  refine upW_late (by rfl) (.agg (PB (pN cT))) (fun w => run_built _ _ _ _ rfl _ (by kernel_rfl) w) ?_
  simp only [Act.put, List.setIfInBounds_toArray, List.set]
  refine upW_nil (fun wr2 hbr2 => ?_)
  replace HX0 := Lib.hid (HX0.out.ext hbr2)
  replace HX1 := Lib.hid (HX1.out.ext hbr2)
  replace HB1x0 := Lib.hid (HB1x0.out.ext hbr2)
  replace HB := Lib.hid (HB.out.trans (hbr2.mono (show N ≤ _ by have := HB.out.size; have := HN.out; omega)))
  clear hbr2
  refine wpList_new1 rfl 24 rfl (PB 0) zPt rfl _ _ rfl rfl (PB (pN cT)) 32 (PB_rw (pN cT)) (PB_rw 0).size (by kernel_rfl) rfl rfl (fun B3 wr3 hB3 hbr3 hCB3 => ?_)
  have HB3 := Lib.hid hCB3
  have hlB3X0 : N < B3 := by rw [← hB3]; exact HX0.out.lt
  have hlB3X1 : (N + 1) < B3 := by rw [← hB3]; exact HX1.out.lt
  have hlB3B1x0 : B1x0 < B3 := by rw [← hB3]; exact HB1x0.out.lt
  have hNB3 : N ≤ B3 := by rw [← hB3]; have := HB.out.size; have := HN.out; omega
  clear hB3 hCB3
  simp only [Act.put, List.setIfInBounds_toArray, List.set]
  replace HX0 := Lib.hid (HX0.out.ext hbr3)
  replace HX1 := Lib.hid (HX1.out.ext hbr3)
  replace HB1x0 := Lib.hid (HB1x0.out.ext hbr3)
  replace HB := Lib.hid (HB.out.trans (hbr3.mono (show N ≤ _ by have := HB.out.size; have := HN.out; omega)))
  clear hbr3
  go_upto_region 3 with fail
  refine wp_region_seq 4 ?_
  simp only [List.take_succ_cons, List.take_zero, List.drop_succ_cons, List.drop_zero]
  refine upW_val (by rfl) (by rfl) (by rfl) ?_
  intro K hK
  go_big_quiet_op
  refine hK _ ?_
  refine upW_late (by rfl) (.int .u64 (turn % 18446744073709551616)) (fun w => run_toU _ _ _ rfl turn rfl w) ?_
  simp only [Act.put, List.setIfInBounds_toArray, List.set]
  refine upW_late (by rfl) (.int .u64 ((sT turn : Nat) : Int)) (fun w => run_rem8' _ _ _ _ rfl turn rfl rfl w) ?_
  simp only [Act.put, List.setIfInBounds_toArray, List.set]
  refine upW_late (by rfl) (.int .i64 ((sT turn : Nat) : Int)) (fun w => run_toI _ _ _ rfl _ HT2.out HT3.out rfl w) ?_
  simp only [Act.put, List.setIfInBounds_toArray, List.set]
  refine upW_nil (fun wr4 hbr4 => ?_)
  replace HX0 := Lib.hid (HX0.out.ext hbr4)
  replace HX1 := Lib.hid (HX1.out.ext hbr4)
  replace HB1x0 := Lib.hid (HB1x0.out.ext hbr4)
  replace HB3 := Lib.hid (HB3.out.ext hbr4)
  replace HB := Lib.hid (HB.out.trans (hbr4.mono (show N ≤ _ by have := HB.out.size; have := HN.out; omega)))
  clear hbr4
  go_wp2_with fail
  go_loopw [7, 9] (fun ok iv wr => ∃ (j : Nat) (q : Pt), iv = .int .i64 (j : Int) ∧ ok = .bool true ∧ j ≤ sT turn ∧ Hid (q = padd (ptimes k cB) (ptimes (sT turn - j) cT)) ∧ CT wr N 23 (PB k) ∧ CT wr (N + 1) 24 (PB 0) ∧ CT wr B1x0 24 (PB (pN q)) ∧ CT wr B3 24 (PB (pN cT)) ∧ Below N w wr) (fun _ i _ => (intOf i).toNat)
  case atStart => exact ⟨sT turn, q1, rfl, rfl, Nat.le_refl _, Lib.hid (HE1.out.trans (by rw [Nat.sub_self]; exact (padd_zero _).symm)), HX0.out, HX1.out, HB1x0.out, HB3.out, HB.out⟩
  case round =>
    obtain ⟨j, q, rfl, rfl, hj, HP, hh0, hh1, hh2, hh3, hbel⟩ := hrel
    clear HB HX0 HX1 HB1x0 HB3
    have HX0 := Lib.hid hh0
    have HX1 := Lib.hid hh1
    have HB1x0 := Lib.hid hh2
    have HB3 := Lib.hid hh3
    have HB := Lib.hid hbel
    clear hbel hh0 hh1 hh2 hh3
    cases j with
    | zero =>
      have HRES := Lib.hid (show q = sP k turn from HP.out)
      clear HP
      go_upto_region 7 with fail
      refine wp_region_seq 2 ?_
      simp only [List.take_succ_cons, List.take_zero, List.drop_succ_cons, List.drop_zero]
      refine upW_val (by rfl) (by rfl) (by rfl) (fun K hK => quiet_load_ct _ _ rfl B1x0 rfl 24 (PB (pN q)) 32 (PB_rw (pN q)) _ HB1x0.out Try.underlying24 rfl (by kernel_rfl) (hK _ ?_))
      simp only [Act.put, List.setIfInBounds_toArray, List.set]
      refine upW_val (by rfl) (by rfl) (by rfl) ?_
      intro K hK
      go_big_quiet_op
      refine hK _ ?_
      refine upW_nil (fun wr5 hbr5 => ?_)
      replace HX0 := Lib.hid (HX0.out.ext hbr5)
      replace HX1 := Lib.hid (HX1.out.ext hbr5)
      replace HB1x0 := Lib.hid (HB1x0.out.ext hbr5)
      replace HB3 := Lib.hid (HB3.out.ext hbr5)
      replace HB := Lib.hid (HB.out.trans (hbr5.mono (show N ≤ _ by have := HB.out.size; have := HN.out; omega)))
      clear hbr5
      refine wpList_store_ct rfl 24 _ _ rfl (N + 1) (PB (pN q)) rfl rfl 24 (PB 0) 32 HX1.out (by kernel_rfl) (PB_rw 0) (PB_rw (pN q)) rfl (fun wr6 hSwr6 hOwr6 hWwr6 => ?_)
      replace HX1 := Lib.hid hSwr6
      replace HB := Lib.hid (hWwr6 _ _ HB.out (by omega))
      replace HX0 := Lib.hid (HX0.out.other (hOwr6 _ (by omega)))
      replace HB1x0 := Lib.hid (HB1x0.out.other (hOwr6 _ (by omega)))
      replace HB3 := Lib.hid (HB3.out.other (hOwr6 _ (by omega)))
      clear hSwr6 hOwr6 hWwr6
      go_wp2
      refine bodyPost_ret (results_ct_slot (p := 4) (q := 5) (by rfl) _ _ (N + 1) 24 (PB (pN q)) 32 _ (.bool true) (by rfl) HX1.out (PB_rw (pN q)) Try.underlying24 rfl (by kernel_rfl) rfl) rfl ⟨by rw [HRES.out], by rw [HN.out]; exact HB.out⟩
    | succ j =>
      have HJ := Lib.hid hj
      have hj8 : j + 1 ≤ 8 := by have := sT_lt turn; omega
      obtain ⟨q3, hq3⟩ : ∃ zp : Pt, zp = padd q cT := ⟨_, rfl⟩
      have HE3 := Lib.hid hq3
      clear hq3
      have HQ4 := Lib.hid (fun w => Add_ok q cT w)
      rw [← HE3.out] at HQ4
      have HP2 := Lib.hid (show q3 = padd (ptimes k cB) (ptimes (sT turn - j) cT) by
        have h := HP.out
        have h2 := HJ.out
        rw [HE3.out, h, padd_assoc, show sT turn - j = sT turn - (j + 1) + 1 by omega]
        rfl)
      clear HP
      go_upto_region 6 with fail
      refine wp_region_seq 6 ?_
      simp only [List.take_succ_cons, List.take_zero, List.drop_succ_cons, List.drop_zero]
      refine upW_val (by rfl) (by rfl) (by rfl) (fun K hK => quiet_load_ct _ _ rfl B1x0 rfl 24 (PB (pN q)) 32 (PB_rw (pN q)) _ HB1x0.out Try.underlying24 rfl (by kernel_rfl) (hK _ ?_))
      simp only [Act.put, List.setIfInBounds_toArray, List.set]
      refine upW_val (by rfl) (by rfl) (by rfl) (fun K hK => quiet_load_ct _ _ rfl B3 rfl 24 (PB (pN cT)) 32 (PB_rw (pN cT)) _ HB3.out Try.underlying24 rfl (by kernel_rfl) (hK _ ?_))
      simp only [Act.put, List.setIfInBounds_toArray, List.set]
      refine upW_call (by rfl) (by rfl) (.tuple #[.agg (PB (pN q3)), .bool true]) _ rfl (by simp) (fun p => ?_) ?_
      · go_big_quiet_op
        exact ⟨_, fun q => Calls.ext_of (HQ4.out q.x), rfl⟩
      simp only [Act.put, List.setIfInBounds_toArray, List.set]
      refine upW_val (by rfl) (by rfl) (by rfl) ?_
      intro K hK
      go_big_quiet_op
      refine hK _ ?_
      refine upW_late (by rfl) (.agg (PB (pN q3))) (fun _ => rfl) ?_
      simp only [Act.put, List.setIfInBounds_toArray, List.set]
      refine upW_late (by rfl) (.bool true) (fun _ => rfl) ?_
      simp only [Act.put, List.setIfInBounds_toArray, List.set]
      refine upW_nil (fun wr7 hbr7 => ?_)
      replace HX0 := Lib.hid (HX0.out.ext hbr7)
      replace HX1 := Lib.hid (HX1.out.ext hbr7)
      replace HB1x0 := Lib.hid (HB1x0.out.ext hbr7)
      replace HB3 := Lib.hid (HB3.out.ext hbr7)
      replace HB := Lib.hid (HB.out.trans (hbr7.mono (show N ≤ _ by have := HB.out.size; have := HN.out; omega)))
      clear hbr7
      refine wpList_store_ct rfl 24 _ _ rfl B1x0 (PB (pN q3)) rfl rfl 24 (PB (pN q)) 32 HB1x0.out (by kernel_rfl) (PB_rw (pN q)) (PB_rw (pN q3)) rfl (fun wr8 hSwr8 hOwr8 hWwr8 => ?_)
      replace HB1x0 := Lib.hid hSwr8
      replace HB := Lib.hid (hWwr8 _ _ HB.out (by omega))
      replace HX0 := Lib.hid (HX0.out.other (hOwr8 _ (by omega)))
      replace HX1 := Lib.hid (HX1.out.other (hOwr8 _ (by omega)))
      replace HB3 := Lib.hid (HB3.out.other (hOwr8 _ (by omega)))
      clear hSwr8 hOwr8 hWwr8
      go_wp2_with fail
      go_roundw
      case rel => exact ⟨j, q3, (by first | rfl | exact congrArg (Value.int .i64) (by omega) | simp), rfl, by have := HJ.out; omega, HP2, HX0.out, HX1.out, HB1x0.out, HB3.out, HB.out⟩
      case measure => simp [intOf]
end Go.Proofs.Ytfmclkmmkceldaa
