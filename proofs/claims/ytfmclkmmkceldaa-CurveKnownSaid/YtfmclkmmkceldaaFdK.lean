/-
  What undoes a number; roots.
  Conditions: none.
-/
import Derived.Test.YtfmclkmmkceldaaFdJ
namespace Go.Proofs.Ytfmclkmmkceldaa
open Go.RowKit

set_option maxRecDepth 100000 in
set_option maxHeartbeats 1000000 in
theorem inverseC_any (a : Nat) (w : World) (ha : a < 115792089237316195423570985008687907853269984665640564039457584007913129639936) :
    Calls Try.prog 73 #[.agg (nums .u64 (w4 a))] w fun r w' => r = .returned (.agg (nums .u64 (w4 (pw a 57896044618658097711785492504343953926634992332820282019728792003956564819947)))) ∧ Below w.heap.size w w' := by
  have HBL := Lib.hid (fun w => below255_21 w)
  obtain ⟨x, hx⟩ : ∃ x, pw a 57896044618658097711785492504343953926634992332820282019728792003956564819947 = x := ⟨_, rfl⟩
  have HPW := Lib.hid (fun w => powerC_any a 57896044618658097711785492504343953926634992332820282019728792003956564819947 w ha)
  rw [hx] at HPW
  have HX := Lib.hid hx
  have HSA := Lib.hid (sC a)
  have HSX := Lib.hid (sC x)
  have HO := Lib.hid (show (nums .u64 (zer 4)).size = (nums .u64 (w4 x)).size by rw [size_nums, size_nums, zer_len, w4_len])
  have hz := zC
  rw [hx]
  clear ha hx
  go_enter Try.func73, Try.ntmps73
  go_upto_region 1 with fail
  generalize hW1 : World.alloc _ _ = W1
  obtain ⟨N, hN⟩ : ∃ n, w.heap.size = n := ⟨_, rfl⟩
  have HR1 := Lib.hid (show RW W1 N .u64 70 (w4 a) by subst hW1; rw [← hN]; exact (alloc2_at w _ _).1)
  have HR2 := Lib.hid (show RW W1 (N + 1) .u64 70 (zer 4) by subst hW1; rw [← hN]; exact (alloc2_at w _ _).2)
  have HB1 := Lib.hid (show Below N w W1 by subst hW1; rw [← hN]; exact ((Below.refl _ w).alloc (Nat.le_refl _) _).alloc (by simp) _)
  have HN := Lib.hid hN
  rw [hN]
  clear hW1 hN hz
  refine wp_region_up 3 3 (by kernel_rfl) (by kernel_rfl) (fun _ _ dst _ _ h => by cases dst <;> exact h) ?_
  simp only [List.take_succ_cons, List.take_zero, List.drop_succ_cons, List.drop_zero]
  refine upW_val (by rfl) (by rfl) (by rfl) (fun K hK => quiet_load_row _ _ rfl N rfl 70 _ (0, 0) _ HR1.out Try.underlying70 rfl HSA.out (hK _ ?_))
  simp only [Act.put, List.setIfInBounds_toArray, List.set]
  refine upW_call (by rfl) (by rfl) (.agg (nums .u64 (w4 57896044618658097711785492504343953926634992332820282019728792003956564819947))) _ rfl (by simp) (fun p => ?_) ?_
  · go_big_quiet_op
    exact ⟨_, fun q => Calls.ext_of (HBL.out q.x), rfl⟩
  simp only [Act.put, List.setIfInBounds_toArray, List.set]
  refine upW_call (by rfl) (by rfl) (.agg (nums .u64 (w4 x))) _ rfl (by simp) (fun p => ?_) ?_
  · go_big_quiet_op
    exact ⟨_, fun q => Calls.ext_of (HPW.out q.x), rfl⟩
  simp only [Act.put, List.setIfInBounds_toArray, List.set]
  refine upW_nil (fun wy hby => ?_)
  have HY2 := Lib.hid (HR2.out.ext hby)
  have HYB := Lib.hid (HB1.out.trans (hby.mono (show N ≤ W1.heap.size by have := HR2.out.lt; omega)))
  clear hby HR1 HR2 HB1
  go_wp2_with (refine wpList_store_row rfl 70 _ _ rfl (N + 1) (nums .u64 (w4 x)) rfl rfl 70 _ HY2.out HSX.out HO.out (nums_one _ _) ?_)
  refine bodyPost_ret (results_cell_row (by rfl) _ _ (N + 1) 70 (nums .u64 (w4 x)) (0, 0) _ (by rfl) (setRow_heap _ _ _ _ _ _ HY2.out) Try.underlying70 rfl HSX.out) rfl ⟨rfl, ?_⟩
  rw [HN.out]
  exact Below.setRow HYB.out (by omega) _
theorem run_eqW (o : Oper) (ax : Act) (x y : Operand) (t : TypeId) (ho : o.op = .binOp .eql t x y t) (hu : Try.prog.underlying t = some (.array 4 29)) (a b : Nat) (hx : ax.eval x = .agg (nums .u64 (w4 a))) (hy : ax.eval y = .agg (nums .u64 (w4 b))) (ha : a < 115792089237316195423570985008687907853269984665640564039457584007913129639936) (hb : b < 115792089237316195423570985008687907853269984665640564039457584007913129639936) (hm : Try.prog.eqGuardType Try.prog.depth t = false) (w : World) :
    (execOp ax.eval o).run Try.prog w = .ok (.value (.bool (decide (a = b)))) w := by
  unfold execOp
  simp only [ho, hx, hy]
  have h : (Op.equal t (.agg (nums .u64 (w4 a))) (.agg (nums .u64 (w4 b)))).run Try.prog w = .ok (decide (a = b)) w := eqW t hu a b ha hb w
  simp [go_sem, binOp, hm, h]
set_option maxRecDepth 100000 in
set_option maxHeartbeats 1000000 in
theorem isRootC_any (n a : Nat) (w : World) (hn : n < 115792089237316195423570985008687907853269984665640564039457584007913129639936) (ha : a < 115792089237316195423570985008687907853269984665640564039457584007913129639936) :
    Calls Try.prog 128 #[.agg (nums .u64 (w4 n)), .agg (nums .u64 (w4 a))] w fun r w' => r = .returned (.bool (decide (mu n n % 57896044618658097711785492504343953926634992332820282019728792003956564819949 = a))) ∧ Below w.heap.size w w' := by
  have HNL := Lib.hid hn
  have HAL := Lib.hid ha
  have HSA := Lib.hid (sC a)
  have HSQL := Lib.hid (mu_lt n n)
  obtain ⟨s, hs⟩ : ∃ s, mu n n = s := ⟨_, rfl⟩
  have HSQ := Lib.hid (fun b w h => squareC_any n b w hn h)
  rw [hs] at HSQ HSQL
  have HSS := Lib.hid (sC s)
  have HRS := Lib.hid (fun w => restC_any s w HSQL.out)
  have HSLT := Lib.hid (show s % 57896044618658097711785492504343953926634992332820282019728792003956564819949 < 115792089237316195423570985008687907853269984665640564039457584007913129639936 by omega)
  obtain ⟨r, hr⟩ : ∃ r, s % 57896044618658097711785492504343953926634992332820282019728792003956564819949 = r := ⟨_, rfl⟩
  rw [hr] at HRS HSLT
  rw [hs, hr]
  clear hn ha hs hr
  go_enter Try.func128, Try.ntmps128
  go_upto_region 1 with fail
  generalize hW1 : World.alloc _ _ = W1
  obtain ⟨N, hN⟩ : ∃ n, w.heap.size = n := ⟨_, rfl⟩
  have HR1 := Lib.hid (show RW W1 N .u64 70 (w4 n) by subst hW1; rw [← hN]; exact (alloc2_at w _ _).1)
  have HR2 := Lib.hid (show RW W1 (N + 1) .u64 70 (w4 a) by subst hW1; rw [← hN]; exact (alloc2_at w _ _).2)
  have HB1 := Lib.hid (show Below N w W1 by subst hW1; rw [← hN]; exact ((Below.refl _ w).alloc (Nat.le_refl _) _).alloc (by simp) _)
  have HN := Lib.hid hN
  rw [hN]
  clear hW1 hN
  go_wp2_with fail
  refine (HSQ.out N W1 HR1.out).mono ?_
  rintro e2 w2 ⟨rfl, hq1, hqx⟩
  have HC1 := Lib.hid hq1
  have HC2 := Lib.hid (HR2.out.belowX hqx (by omega))
  have HCB := Lib.hid (below_x HB1.out hqx (Nat.le_refl _) (by have := HR2.out.lt; omega))
  clear hq1 hqx HR1 HR2 HB1
  go_wp2_with fail
  refine wp_region_up 4 4 (by kernel_rfl) (by kernel_rfl) (fun _ _ dst _ _ h => by cases dst <;> exact h) ?_
  simp only [List.take_succ_cons, List.take_zero, List.drop_succ_cons, List.drop_zero]
  refine upW_val (by rfl) (by rfl) (by rfl) (fun K hK => quiet_load_row _ _ rfl N rfl 70 _ (0, 0) _ HC1.out Try.underlying70 rfl HSS.out (hK _ ?_))
  simp only [Act.put, List.setIfInBounds_toArray, List.set]
  refine upW_call (by rfl) (by rfl) (.agg (nums .u64 (w4 r))) _ rfl (by simp) (fun p => ?_) ?_
  · go_big_quiet_op
    exact ⟨_, fun q => Calls.ext_of (HRS.out q.x), rfl⟩
  simp only [Act.put, List.setIfInBounds_toArray, List.set]
  refine upW_val (by rfl) (by rfl) (by rfl) (fun K hK => quiet_load_row _ _ rfl (N + 1) rfl 70 _ (0, 0) _ HC2.out Try.underlying70 rfl HSA.out (hK _ ?_))
  simp only [Act.put, List.setIfInBounds_toArray, List.set]
  refine upW_late (by rfl) (.bool (decide (r = a))) (fun w => run_eqW _ _ _ _ 70 rfl Try.underlying70 r a rfl rfl HSLT.out HAL.out (by kernel_rfl) w) ?_
  simp only [Act.put, List.setIfInBounds_toArray, List.set]
  refine upW_nil (fun wy hby => ?_)
  have HYB := Lib.hid (HCB.out.trans (hby.mono (show N ≤ w2.heap.size by have := HC2.out.lt; omega)))
  clear hby
  go_wp2
  go_ret
  exact ⟨rfl, HN.out.symm ▸ HYB.out⟩
/-- A root, if there is one. -/
def rt (a : Nat) : Nat × Bool :=
  if mu (pw a 7237005577332262213973186563042994240829374041602535252466099000494570602494) (pw a 7237005577332262213973186563042994240829374041602535252466099000494570602494) % 57896044618658097711785492504343953926634992332820282019728792003956564819949 = a then (pw a 7237005577332262213973186563042994240829374041602535252466099000494570602494 % 57896044618658097711785492504343953926634992332820282019728792003956564819949, true)
  else if mu (mu (pw a 7237005577332262213973186563042994240829374041602535252466099000494570602494) (pw 2 14474011154664524427946373126085988481658748083205070504932198000989141204987)) (mu (pw a 7237005577332262213973186563042994240829374041602535252466099000494570602494) (pw 2 14474011154664524427946373126085988481658748083205070504932198000989141204987)) % 57896044618658097711785492504343953926634992332820282019728792003956564819949 = a then (mu (pw a 7237005577332262213973186563042994240829374041602535252466099000494570602494) (pw 2 14474011154664524427946373126085988481658748083205070504932198000989141204987) % 57896044618658097711785492504343953926634992332820282019728792003956564819949, true)
  else (0, false)
set_option maxRecDepth 100000 in
set_option maxHeartbeats 1000000 in
theorem rootC_any (a : Nat) (w : World) (ha : a < 57896044618658097711785492504343953926634992332820282019728792003956564819949) :
    Calls Try.prog 96 #[.agg (nums .u64 (w4 a))] w fun r w' => r = .returned (.tuple #[.agg (nums .u64 (w4 (rt a).1)), .bool (rt a).2]) ∧ Below w.heap.size w w' := by
  have hal : a < 115792089237316195423570985008687907853269984665640564039457584007913129639936 := by omega
  have HBL := Lib.hid (fun w => below252_2 w)
  have HBM := Lib.hid (fun w => below253_5 w)
  have HP1 := Lib.hid (fun w => powerC_any a 7237005577332262213973186563042994240829374041602535252466099000494570602494 w hal)
  have HP2 := Lib.hid (fun w => powerC_any 2 14474011154664524427946373126085988481658748083205070504932198000989141204987 w (by decide))
  have HG1 := Lib.hid (pw_lt a 7237005577332262213973186563042994240829374041602535252466099000494570602494)
  have HG2 := Lib.hid (pw_lt 2 14474011154664524427946373126085988481658748083205070504932198000989141204987)
  have HRT := Lib.hid (show rt a = if mu (pw a 7237005577332262213973186563042994240829374041602535252466099000494570602494) (pw a 7237005577332262213973186563042994240829374041602535252466099000494570602494) % 57896044618658097711785492504343953926634992332820282019728792003956564819949 = a then (pw a 7237005577332262213973186563042994240829374041602535252466099000494570602494 % 57896044618658097711785492504343953926634992332820282019728792003956564819949, true)
    else if mu (mu (pw a 7237005577332262213973186563042994240829374041602535252466099000494570602494) (pw 2 14474011154664524427946373126085988481658748083205070504932198000989141204987)) (mu (pw a 7237005577332262213973186563042994240829374041602535252466099000494570602494) (pw 2 14474011154664524427946373126085988481658748083205070504932198000989141204987)) % 57896044618658097711785492504343953926634992332820282019728792003956564819949 = a then (mu (pw a 7237005577332262213973186563042994240829374041602535252466099000494570602494) (pw 2 14474011154664524427946373126085988481658748083205070504932198000989141204987) % 57896044618658097711785492504343953926634992332820282019728792003956564819949, true)
    else (0, false) from rfl)
  obtain ⟨g, hg⟩ : ∃ g, pw a 7237005577332262213973186563042994240829374041602535252466099000494570602494 = g := ⟨_, rfl⟩
  obtain ⟨i, hi⟩ : ∃ g, pw 2 14474011154664524427946373126085988481658748083205070504932198000989141204987 = g := ⟨_, rfl⟩
  rw [hg] at HP1 HG1 HRT
  rw [hi] at HP2 HG2 HRT
  have HTM := Lib.hid (fun b w h => timesC_any g i b w HG1.out HG2.out h)
  have HG3 := Lib.hid (mu_lt g i)
  obtain ⟨h, hh⟩ : ∃ h, mu g i = h := ⟨_, rfl⟩
  rw [hh] at HTM HG3 HRT
  have HI1 := Lib.hid (fun w => isRootC_any g a w HG1.out hal)
  have HI2 := Lib.hid (fun w => isRootC_any h a w HG3.out hal)
  have HM1 := Lib.hid (fun w => restC_any g w HG1.out)
  have HM2 := Lib.hid (fun w => restC_any h w HG3.out)
  have HSA := Lib.hid (sC a)
  have HSG := Lib.hid (sC g)
  have HSH := Lib.hid (sC h)
  have HSGR := Lib.hid (sC (g % 57896044618658097711785492504343953926634992332820282019728792003956564819949))
  have HSHR := Lib.hid (sC (h % 57896044618658097711785492504343953926634992332820282019728792003956564819949))
  have HS0 := Lib.hid (sC 0)
  have hz := zC
  clear ha hal hg hi hh HG1 HG2 HG3
  go_enter Try.func96, Try.ntmps96
  go_upto_region 1 with fail
  generalize hW1 : World.alloc _ _ = W1
  obtain ⟨N, hN⟩ : ∃ n, w.heap.size = n := ⟨_, rfl⟩
  have HR1 := Lib.hid (show RW W1 N .u64 70 (w4 a) by subst hW1; rw [← hN]; exact (alloc2_at w _ _).1)
  have HR2 := Lib.hid (show RW W1 (N + 1) .u64 70 (zer 4) by subst hW1; rw [← hN]; exact (alloc2_at w _ _).2)
  have HB1 := Lib.hid (show Below N w W1 by subst hW1; rw [← hN]; exact ((Below.refl _ w).alloc (Nat.le_refl _) _).alloc (by simp) _)
  have HN := Lib.hid hN
  rw [hN]
  clear hW1 hN hz
  refine wp_region_upA 4 4 3 [0, 1, 2] _ (.cells (nums .u64 (zer 4)) 70) (by kernel_rfl) (by kernel_rfl) (fun _ _ dst _ _ h => by cases dst <;> exact h) rfl (fun a w K hK => wpOp_of_run rfl rfl (run_allocC a _ rfl w) hK) rfl ?_
  simp only [List.take_succ_cons, List.take_zero, List.drop_succ_cons, List.drop_zero, List.eraseIdx_cons_succ, List.eraseIdx_cons_zero]
  refine upW_val (by rfl) (by rfl) (by rfl) (fun K hK => quiet_load_row _ _ rfl N rfl 70 _ (0, 0) _ HR1.out Try.underlying70 rfl HSA.out (hK _ ?_))
  simp only [Act.put, List.setIfInBounds_toArray, List.set]
  refine upW_call (by rfl) (by rfl) (.agg (nums .u64 (w4 7237005577332262213973186563042994240829374041602535252466099000494570602494))) _ rfl (by simp) (fun p => ?_) ?_
  · go_big_quiet_op
    exact ⟨_, fun q => Calls.ext_of (HBL.out q.x), rfl⟩
  simp only [Act.put, List.setIfInBounds_toArray, List.set]
  refine upW_call (by rfl) (by rfl) (.agg (nums .u64 (w4 g))) _ rfl (by simp) (fun p => ?_) ?_
  · go_big_quiet_op
    exact ⟨_, fun q => Calls.ext_of (HP1.out q.x), rfl⟩
  simp only [Act.put, List.setIfInBounds_toArray, List.set]
  refine upW_nil (fun M wm hM hbm hom => ?_)
  simp only [List.setIfInBounds_toArray]
  have HOM := Lib.hid hom
  have HC1 := Lib.hid (HR1.out.ext hbm)
  have HC2 := Lib.hid (HR2.out.ext hbm)
  have hMN : N + 1 < M := Nat.lt_of_lt_of_le HR2.out.lt hM
  have HCB := Lib.hid (HB1.out.trans (hbm.mono (show N ≤ W1.heap.size by have := HR2.out.lt; omega)))
  clear hom hbm HR1 HR2 HB1
  go_wp2_with (refine wpList_store_row rfl 70 _ _ rfl M (nums .u64 (w4 g)) rfl rfl 70 _ HOM.out HSG.out ?hold (nums_one _ _) (Stop.out ?_))
  case hold => rw [size_nums, size_nums, zer_len]; rfl
  generalize hWS : World.setRow _ _ _ = ws
  have HD1 := Lib.hid (show RW ws N .u64 70 (w4 a) by subst hWS; exact HC1.out.other (setRow_other _ _ _ _ (by omega)))
  have HD2 := Lib.hid (show RW ws (N + 1) .u64 70 (zer 4) by subst hWS; exact HC2.out.other (setRow_other _ _ _ _ (by omega)))
  have HD3 := Lib.hid (show RW ws M .u64 70 (w4 g) by subst hWS; exact setRow_heap _ _ _ _ _ _ HOM.out)
  have HDB := Lib.hid (show Below N w ws by subst hWS; exact Below.setRow HCB.out (by omega) _)
  clear hWS HC1 HC2 HOM HCB
  refine ⟨?_⟩
  go_wp2_with (first
    | (refine wpList_load_row rfl 70 _ rfl M rfl 70 (nums .u64 (w4 g)) (0, 0) _ HD3.out Try.underlying70 rfl HSG.out ?_)
    | (refine wpList_load_row rfl 70 _ rfl N rfl 70 (nums .u64 (w4 a)) (0, 0) _ HD1.out Try.underlying70 rfl HSA.out ?_)
    )
  refine (HI1.out _).mono ?_
  rintro e3 w3 ⟨rfl, hb3⟩
  have HE1 := Lib.hid (HD1.out.ext hb3)
  have HE2 := Lib.hid (HD2.out.ext hb3)
  have HE3 := Lib.hid (HD3.out.ext hb3)
  have HEB := Lib.hid (HDB.out.trans (hb3.mono (show N ≤ ws.heap.size by have := HD2.out.lt; omega)))
  clear hb3 HD1 HD2 HD3 HDB
  by_cases h1 : mu g g % 57896044618658097711785492504343953926634992332820282019728792003956564819949 = a
  · have hd : decide (mu g g % 57896044618658097711785492504343953926634992332820282019728792003956564819949 = a) = true := by simpa using h1
    rw [if_pos h1] at HRT
    rw [hd]
    clear h1 hd
    go_wp2_with (refine wpList_load_row rfl 70 _ rfl M rfl 70 (nums .u64 (w4 g)) (0, 0) _ HE3.out Try.underlying70 rfl HSG.out ?_)
    refine (HM1.out _).mono ?_
    rintro e5 w5 ⟨rfl, hb5⟩
    have HF2 := Lib.hid (HE2.out.ext hb5)
    have HFB := Lib.hid (HEB.out.trans (hb5.mono (show N ≤ _ by have := HE2.out.lt; omega)))
    have HO := Lib.hid (show (nums .u64 (zer 4)).size = (nums .u64 (w4 (g % 57896044618658097711785492504343953926634992332820282019728792003956564819949))).size by rw [size_nums, size_nums, zer_len, w4_len])
    clear hb5
    go_wp2_with (refine wpList_store_row rfl 70 _ _ rfl (N + 1) (nums .u64 (w4 (g % 57896044618658097711785492504343953926634992332820282019728792003956564819949))) rfl rfl 70 _ HF2.out HSGR.out HO.out (nums_one _ _) ?_)
    refine bodyPost_ret (results_cell_slot (p := 2) (q := 3) (by rfl) _ _ (N + 1) 70 (nums .u64 (w4 (g % 57896044618658097711785492504343953926634992332820282019728792003956564819949))) (0, 0) _ (.bool true) (by rfl) (setRow_heap _ _ _ _ _ _ HF2.out) Try.underlying70 rfl HSGR.out rfl) rfl ⟨by rw [HRT.out], ?_⟩
    rw [HN.out]
    exact Below.setRow HFB.out (by omega) _
  · have hd : decide (mu g g % 57896044618658097711785492504343953926634992332820282019728792003956564819949 = a) = false := by simpa using h1
    rw [if_neg h1] at HRT
    rw [hd]
    clear h1 hd
    go_wp2_with (refine wpList_build' rfl 70 _ rfl (nums .u64 (w4 2)) (by kernel_rfl) ?_)
    refine (HBM.out _).mono ?_
    rintro e4 w4' ⟨rfl, hb4⟩
    have HF1 := Lib.hid (HE1.out.ext hb4)
    have HF2 := Lib.hid (HE2.out.ext hb4)
    have HF3 := Lib.hid (HE3.out.ext hb4)
    have HFB := Lib.hid (HEB.out.trans (hb4.mono (show N ≤ w3.heap.size by have := HE2.out.lt; omega)))
    clear hb4 HE1 HE2 HE3 HEB
    go_wp2_with fail
    refine (HP2.out _).mono ?_
    rintro e5 w5 ⟨rfl, hb5⟩
    have HG1 := Lib.hid (HF1.out.ext hb5)
    have HG2 := Lib.hid (HF2.out.ext hb5)
    have HG3 := Lib.hid (HF3.out.ext hb5)
    have HGB := Lib.hid (HFB.out.trans (hb5.mono (show N ≤ w4'.heap.size by have := HF2.out.lt; omega)))
    clear hb5 HF1 HF2 HF3 HFB
    go_wp2_with fail
    refine (HTM.out M w5 HG3.out).mono ?_
    rintro e6 w6 ⟨rfl, hq, hqx⟩
    have HH1 := Lib.hid (HG1.out.belowX hqx (by omega))
    have HH2 := Lib.hid (HG2.out.belowX hqx (by omega))
    have HH3 := Lib.hid hq
    have HHB := Lib.hid (below_x HGB.out hqx (by omega) (by have := HG2.out.lt; omega))
    clear hq hqx HG1 HG2 HG3 HGB
    go_wp2_with (first
      | (refine wpList_load_row rfl 70 _ rfl M rfl 70 (nums .u64 (w4 h)) (0, 0) _ HH3.out Try.underlying70 rfl HSH.out ?_)
      | (refine wpList_load_row rfl 70 _ rfl N rfl 70 (nums .u64 (w4 a)) (0, 0) _ HH1.out Try.underlying70 rfl HSA.out ?_)
      )
    refine (HI2.out _).mono ?_
    rintro e7 w7 ⟨rfl, hb7⟩
    have HE2 := Lib.hid (HH2.out.ext hb7)
    have HE3 := Lib.hid (HH3.out.ext hb7)
    have HEB := Lib.hid (HHB.out.trans (hb7.mono (show N ≤ w6.heap.size by have := HH2.out.lt; omega)))
    clear hb7 HH1 HH2 HH3 HHB
    by_cases h1 : mu h h % 57896044618658097711785492504343953926634992332820282019728792003956564819949 = a
    · have hd : decide (mu h h % 57896044618658097711785492504343953926634992332820282019728792003956564819949 = a) = true := by simpa using h1
      rw [if_pos h1] at HRT
      rw [hd]
      clear h1 hd
      go_wp2_with (refine wpList_load_row rfl 70 _ rfl M rfl 70 (nums .u64 (w4 h)) (0, 0) _ HE3.out Try.underlying70 rfl HSH.out ?_)
      refine (HM2.out _).mono ?_
      rintro e5 w5 ⟨rfl, hb5⟩
      have HF2 := Lib.hid (HE2.out.ext hb5)
      have HFB := Lib.hid (HEB.out.trans (hb5.mono (show N ≤ _ by have := HE2.out.lt; omega)))
      have HO := Lib.hid (show (nums .u64 (zer 4)).size = (nums .u64 (w4 (h % 57896044618658097711785492504343953926634992332820282019728792003956564819949))).size by rw [size_nums, size_nums, zer_len, w4_len])
      clear hb5
      go_wp2_with (refine wpList_store_row rfl 70 _ _ rfl (N + 1) (nums .u64 (w4 (h % 57896044618658097711785492504343953926634992332820282019728792003956564819949))) rfl rfl 70 _ HF2.out HSHR.out HO.out (nums_one _ _) ?_)
      refine bodyPost_ret (results_cell_slot (p := 2) (q := 3) (by rfl) _ _ (N + 1) 70 (nums .u64 (w4 (h % 57896044618658097711785492504343953926634992332820282019728792003956564819949))) (0, 0) _ (.bool true) (by rfl) (setRow_heap _ _ _ _ _ _ HF2.out) Try.underlying70 rfl HSHR.out rfl) rfl ⟨by rw [HRT.out], ?_⟩
      rw [HN.out]
      exact Below.setRow HFB.out (by omega) _
    · have hd : decide (mu h h % 57896044618658097711785492504343953926634992332820282019728792003956564819949 = a) = false := by simpa using h1
      rw [if_neg h1] at HRT
      rw [hd]
      clear h1 hd
      have HO := Lib.hid (show (nums .u64 (zer 4)).size = (nums .u64 (w4 0)).size by rw [size_nums, size_nums, zer_len, w4_len])
      go_wp2_with (first
        | (refine wpList_build' rfl 70 _ rfl (nums .u64 (w4 0)) (by kernel_rfl) ?_)
        | (refine wpList_store_row rfl 70 _ _ rfl (N + 1) (nums .u64 (w4 0)) rfl rfl 70 _ HE2.out HS0.out HO.out (nums_one _ _) ?_)
        )
      refine bodyPost_ret (results_cell_slot (p := 2) (q := 3) (by rfl) _ _ (N + 1) 70 (nums .u64 (w4 0)) (0, 0) _ (.bool false) (by rfl) (setRow_heap _ _ _ _ _ _ HE2.out) Try.underlying70 rfl HS0.out rfl) rfl ⟨by rw [HRT.out], ?_⟩
      rw [HN.out]
      exact Below.setRow HEB.out (by omega) _
end Go.Proofs.Ytfmclkmmkceldaa
