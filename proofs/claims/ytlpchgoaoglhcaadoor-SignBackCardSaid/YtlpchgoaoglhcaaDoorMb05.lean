/-
  What undoes a number; roots.
  Package field's functions.
  Conditions: none.
-/
import Derived.Test.YtlpchgoaoglhcaaDoorMb04
namespace Go.Proofs.YtlpchgoaoglhcaaDoor
open Go.RowKit
set_option maxRecDepth 100000 in
set_option maxHeartbeats 1000000 in
theorem inverseC_any (a : Nat) (w : World) (ha : a < 115792089237316195423570985008687907853269984665640564039457584007913129639936) :
    Calls Tryd.prog 99 #[.agg (nums .u64 (w4 a))] w fun r w' => r = .returned (.agg (nums .u64 (w4 (pw a 57896044618658097711785492504343953926634992332820282019728792003956564819947)))) ∧ Below w.heap.size w w' := by
  have HBL := Lib.hid (fun w => below255_21 w)
  obtain ⟨x, hx⟩ : ∃ x, pw a 57896044618658097711785492504343953926634992332820282019728792003956564819947 = x := ⟨_, rfl⟩
  have HPW := Lib.hid (fun w => powerC_any a 57896044618658097711785492504343953926634992332820282019728792003956564819947 w ha)
  rw [hx] at HPW
  have HX := Lib.hid hx
  have HSA := Lib.hid (sC a)
  have HSX := Lib.hid (sC x)
  have HO := Lib.hid (show (nums .u64 (zer 4)).size = (nums .u64 (w4 x)).size by rw [size_nums, size_nums, zer_len, w4_len])
  have hz := zC
  rw [hx]
  clear ha hx
  go_enter Tryd.func99, Tryd.ntmps99
  go_upto_region 1 with fail
  generalize hW1 : World.alloc _ _ = W1
  obtain ⟨N, hN⟩ : ∃ n, w.heap.size = n := ⟨_, rfl⟩
  have HR1 := Lib.hid (show RW W1 N .u64 135 (w4 a) by subst hW1; rw [← hN]; exact (alloc2_at w _ _).1)
  have HR2 := Lib.hid (show RW W1 (N + 1) .u64 135 (zer 4) by subst hW1; rw [← hN]; exact (alloc2_at w _ _).2)
  have HB1 := Lib.hid (show Below N w W1 by subst hW1; rw [← hN]; exact ((Below.refl _ w).alloc (Nat.le_refl _) _).alloc (by simp) _)
  have HN := Lib.hid hN
  rw [hN]
  clear hW1 hN hz
  refine wp_region_up 3 3 (by kernel_rfl) (by kernel_rfl) (fun _ _ dst _ _ h => by cases dst <;> exact h) ?_
  simp only [List.take_succ_cons, List.take_zero, List.drop_succ_cons, List.drop_zero]
  refine upW_val (by rfl) (by rfl) (by rfl) (fun K hK => quiet_load_row _ _ rfl N rfl 135 _ (0, 0) _ HR1.out Tryd.underlying135 rfl HSA.out (hK _ ?_))
  simp only [Act.put, List.setIfInBounds_toArray, List.set]
  refine upW_call (by rfl) (by rfl) (.agg (nums .u64 (w4 57896044618658097711785492504343953926634992332820282019728792003956564819947))) _ rfl (by simp) (fun p => ?_) ?_
  · go_big_quiet_op
    exact ⟨_, fun q => Calls.ext_of (HBL.out q.x), rfl⟩
  simp only [Act.put, List.setIfInBounds_toArray, List.set]
  refine upW_call (by rfl) (by rfl) (.agg (nums .u64 (w4 x))) _ rfl (by simp) (fun p => ?_) ?_
  · go_big_quiet_op
    exact ⟨_, fun q => Calls.ext_of (HPW.out q.x), rfl⟩
  simp only [Act.put, List.setIfInBounds_toArray, List.set]
  refine upW_nil (fun wy hby => ?_)
  have HY2 := Lib.hid (HR2.out.ext hby)
  have HYB := Lib.hid (HB1.out.trans (hby.mono (show N ≤ W1.heap.size by have := HR2.out.lt; omega)))
  clear hby HR1 HR2 HB1
  go_wp2_with (refine wpList_store_row rfl 135 _ _ rfl (N + 1) (nums .u64 (w4 x)) rfl rfl 135 _ HY2.out HSX.out HO.out (nums_one _ _) ?_)
  refine bodyPost_ret (results_cell_row (by rfl) _ _ (N + 1) 135 (nums .u64 (w4 x)) (0, 0) _ (by rfl) (setRow_heap _ _ _ _ _ _ HY2.out) Tryd.underlying135 rfl HSX.out) rfl ⟨rfl, ?_⟩
  rw [HN.out]
  exact Below.setRow HYB.out (by omega) _
theorem run_eqW (o : Oper) (ax : Act) (x y : Operand) (t : TypeId) (ho : o.op = .binOp .eql t x y t) (hu : Tryd.prog.underlying t = some (.array 4 52)) (a b : Nat) (hx : ax.eval x = .agg (nums .u64 (w4 a))) (hy : ax.eval y = .agg (nums .u64 (w4 b))) (ha : a < 115792089237316195423570985008687907853269984665640564039457584007913129639936) (hb : b < 115792089237316195423570985008687907853269984665640564039457584007913129639936) (hm : Tryd.prog.eqGuardType Tryd.prog.depth t = false) (w : World) :
    (execOp ax.eval o).run Tryd.prog w = .ok (.value (.bool (decide (a = b)))) w := by
  unfold execOp
  simp only [ho, hx, hy]
  have h : (Op.equal t (.agg (nums .u64 (w4 a))) (.agg (nums .u64 (w4 b)))).run Tryd.prog w = .ok (decide (a = b)) w := eqW t hu a b ha hb w
  simp [go_sem, binOp, hm, h]
set_option maxRecDepth 100000 in
set_option maxHeartbeats 1000000 in
theorem isRootC_any (n a : Nat) (w : World) (hn : n < 115792089237316195423570985008687907853269984665640564039457584007913129639936) (ha : a < 115792089237316195423570985008687907853269984665640564039457584007913129639936) :
    Calls Tryd.prog 107 #[.agg (nums .u64 (w4 n)), .agg (nums .u64 (w4 a))] w fun r w' => r = .returned (.bool (decide (mu n n % 57896044618658097711785492504343953926634992332820282019728792003956564819949 = a))) ∧ Below w.heap.size w w' := by
  have HNL := Lib.hid hn
  have HAL := Lib.hid ha
  have HSA := Lib.hid (sC a)
  have HSQL := Lib.hid (mu_lt n n)
  obtain ⟨s, hs⟩ : ∃ s, mu n n = s := ⟨_, rfl⟩
  have HSQ := Lib.hid (fun b w h => squareC_any n b w hn h)
  rw [hs] at HSQ HSQL
  have HSS := Lib.hid (sC s)
  have HRS := Lib.hid (fun w => restC_any s w HSQL.out)
  have HSLT := Lib.hid (show s % 57896044618658097711785492504343953926634992332820282019728792003956564819949 < 115792089237316195423570985008687907853269984665640564039457584007913129639936 by omega)
  obtain ⟨r, hr⟩ : ∃ r, s % 57896044618658097711785492504343953926634992332820282019728792003956564819949 = r := ⟨_, rfl⟩
  rw [hr] at HRS HSLT
  rw [hs, hr]
  clear hn ha hs hr
  go_enter Tryd.func107, Tryd.ntmps107
  go_upto_region 1 with fail
  generalize hW1 : World.alloc _ _ = W1
  obtain ⟨N, hN⟩ : ∃ n, w.heap.size = n := ⟨_, rfl⟩
  have HR1 := Lib.hid (show RW W1 N .u64 135 (w4 n) by subst hW1; rw [← hN]; exact (alloc2_at w _ _).1)
  have HR2 := Lib.hid (show RW W1 (N + 1) .u64 135 (w4 a) by subst hW1; rw [← hN]; exact (alloc2_at w _ _).2)
  have HB1 := Lib.hid (show Below N w W1 by subst hW1; rw [← hN]; exact ((Below.refl _ w).alloc (Nat.le_refl _) _).alloc (by simp) _)
  have HN := Lib.hid hN
  rw [hN]
  clear hW1 hN
  go_wp2_with fail
  refine (HSQ.out N W1 HR1.out).mono ?_
  rintro e2 w2 ⟨rfl, hq1, hqx⟩
  have HC1 := Lib.hid hq1
  have HC2 := Lib.hid (HR2.out.belowX hqx (by omega))
  have HCB := Lib.hid (below_x HB1.out hqx (Nat.le_refl _) (by have := HR2.out.lt; omega))
  clear hq1 hqx HR1 HR2 HB1
  go_wp2_with fail
  refine wp_region_up 4 4 (by kernel_rfl) (by kernel_rfl) (fun _ _ dst _ _ h => by cases dst <;> exact h) ?_
  simp only [List.take_succ_cons, List.take_zero, List.drop_succ_cons, List.drop_zero]
  refine upW_val (by rfl) (by rfl) (by rfl) (fun K hK => quiet_load_row _ _ rfl N rfl 135 _ (0, 0) _ HC1.out Tryd.underlying135 rfl HSS.out (hK _ ?_))
  simp only [Act.put, List.setIfInBounds_toArray, List.set]
  refine upW_call (by rfl) (by rfl) (.agg (nums .u64 (w4 r))) _ rfl (by simp) (fun p => ?_) ?_
  · go_big_quiet_op
    exact ⟨_, fun q => Calls.ext_of (HRS.out q.x), rfl⟩
  simp only [Act.put, List.setIfInBounds_toArray, List.set]
  refine upW_val (by rfl) (by rfl) (by rfl) (fun K hK => quiet_load_row _ _ rfl (N + 1) rfl 135 _ (0, 0) _ HC2.out Tryd.underlying135 rfl HSA.out (hK _ ?_))
  simp only [Act.put, List.setIfInBounds_toArray, List.set]
  refine upW_late (by rfl) (.bool (decide (r = a))) (fun w => run_eqW _ _ _ _ 135 rfl Tryd.underlying135 r a rfl rfl HSLT.out HAL.out (by kernel_rfl) w) ?_
  simp only [Act.put, List.setIfInBounds_toArray, List.set]
  refine upW_nil (fun wy hby => ?_)
  have HYB := Lib.hid (HCB.out.trans (hby.mono (show N ≤ w2.heap.size by have := HC2.out.lt; omega)))
  clear hby
  go_wp2
  go_ret
  exact ⟨rfl, HN.out.symm ▸ HYB.out⟩
/-- A root, if there is one. -/
def rt (a : Nat) : Nat × Bool :=
  if mu (pw a 7237005577332262213973186563042994240829374041602535252466099000494570602494) (pw a 7237005577332262213973186563042994240829374041602535252466099000494570602494) % 57896044618658097711785492504343953926634992332820282019728792003956564819949 = a then (pw a 7237005577332262213973186563042994240829374041602535252466099000494570602494 % 57896044618658097711785492504343953926634992332820282019728792003956564819949, true)
  else if mu (mu (pw a 7237005577332262213973186563042994240829374041602535252466099000494570602494) (pw 2 14474011154664524427946373126085988481658748083205070504932198000989141204987)) (mu (pw a 7237005577332262213973186563042994240829374041602535252466099000494570602494) (pw 2 14474011154664524427946373126085988481658748083205070504932198000989141204987)) % 57896044618658097711785492504343953926634992332820282019728792003956564819949 = a then (mu (pw a 7237005577332262213973186563042994240829374041602535252466099000494570602494) (pw 2 14474011154664524427946373126085988481658748083205070504932198000989141204987) % 57896044618658097711785492504343953926634992332820282019728792003956564819949, true)
  else (0, false)
set_option maxRecDepth 100000 in
set_option maxHeartbeats 1000000 in
theorem rootC_any (a : Nat) (w : World) (ha : a < 57896044618658097711785492504343953926634992332820282019728792003956564819949) :
    Calls Tryd.prog 92 #[.agg (nums .u64 (w4 a))] w fun r w' => r = .returned (.tuple #[.agg (nums .u64 (w4 (rt a).1)), .bool (rt a).2]) ∧ Below w.heap.size w w' := by
  have hal : a < 115792089237316195423570985008687907853269984665640564039457584007913129639936 := by omega
  have HBL := Lib.hid (fun w => below252_2 w)
  have HBM := Lib.hid (fun w => below253_5 w)
  have HP1 := Lib.hid (fun w => powerC_any a 7237005577332262213973186563042994240829374041602535252466099000494570602494 w hal)
  have HP2 := Lib.hid (fun w => powerC_any 2 14474011154664524427946373126085988481658748083205070504932198000989141204987 w (by decide))
  have HG1 := Lib.hid (pw_lt a 7237005577332262213973186563042994240829374041602535252466099000494570602494)
  have HG2 := Lib.hid (pw_lt 2 14474011154664524427946373126085988481658748083205070504932198000989141204987)
  have HRT := Lib.hid (show rt a = if mu (pw a 7237005577332262213973186563042994240829374041602535252466099000494570602494) (pw a 7237005577332262213973186563042994240829374041602535252466099000494570602494) % 57896044618658097711785492504343953926634992332820282019728792003956564819949 = a then (pw a 7237005577332262213973186563042994240829374041602535252466099000494570602494 % 57896044618658097711785492504343953926634992332820282019728792003956564819949, true)
    else if mu (mu (pw a 7237005577332262213973186563042994240829374041602535252466099000494570602494) (pw 2 14474011154664524427946373126085988481658748083205070504932198000989141204987)) (mu (pw a 7237005577332262213973186563042994240829374041602535252466099000494570602494) (pw 2 14474011154664524427946373126085988481658748083205070504932198000989141204987)) % 57896044618658097711785492504343953926634992332820282019728792003956564819949 = a then (mu (pw a 7237005577332262213973186563042994240829374041602535252466099000494570602494) (pw 2 14474011154664524427946373126085988481658748083205070504932198000989141204987) % 57896044618658097711785492504343953926634992332820282019728792003956564819949, true)
    else (0, false) from rfl)
  obtain ⟨g, hg⟩ : ∃ g, pw a 7237005577332262213973186563042994240829374041602535252466099000494570602494 = g := ⟨_, rfl⟩
  obtain ⟨i, hi⟩ : ∃ g, pw 2 14474011154664524427946373126085988481658748083205070504932198000989141204987 = g := ⟨_, rfl⟩
  rw [hg] at HP1 HG1 HRT
  rw [hi] at HP2 HG2 HRT
  have HTM := Lib.hid (fun b w h => timesC_any g i b w HG1.out HG2.out h)
  have HG3 := Lib.hid (mu_lt g i)
  obtain ⟨h, hh⟩ : ∃ h, mu g i = h := ⟨_, rfl⟩
  rw [hh] at HTM HG3 HRT
  have HI1 := Lib.hid (fun w => isRootC_any g a w HG1.out hal)
  have HI2 := Lib.hid (fun w => isRootC_any h a w HG3.out hal)
  have HM1 := Lib.hid (fun w => restC_any g w HG1.out)
  have HM2 := Lib.hid (fun w => restC_any h w HG3.out)
  have HSA := Lib.hid (sC a)
  have HSG := Lib.hid (sC g)
  have HSH := Lib.hid (sC h)
  have HSGR := Lib.hid (sC (g % 57896044618658097711785492504343953926634992332820282019728792003956564819949))
  have HSHR := Lib.hid (sC (h % 57896044618658097711785492504343953926634992332820282019728792003956564819949))
  have HS0 := Lib.hid (sC 0)
  have hz := zC
  clear ha hal hg hi hh HG1 HG2 HG3
  go_enter Tryd.func92, Tryd.ntmps92
  go_upto_region 1 with fail
  generalize hW1 : World.alloc _ _ = W1
  obtain ⟨N, hN⟩ : ∃ n, w.heap.size = n := ⟨_, rfl⟩
  have HR1 := Lib.hid (show RW W1 N .u64 135 (w4 a) by subst hW1; rw [← hN]; exact (alloc2_at w _ _).1)
  have HR2 := Lib.hid (show RW W1 (N + 1) .u64 135 (zer 4) by subst hW1; rw [← hN]; exact (alloc2_at w _ _).2)
  have HB1 := Lib.hid (show Below N w W1 by subst hW1; rw [← hN]; exact ((Below.refl _ w).alloc (Nat.le_refl _) _).alloc (by simp) _)
  have HN := Lib.hid hN
  rw [hN]
  clear hW1 hN hz
  refine wp_region_upA 4 4 3 [0, 1, 2] _ (.cells (nums .u64 (zer 4)) 135) (by kernel_rfl) (by kernel_rfl) (fun _ _ dst _ _ h => by cases dst <;> exact h) rfl (fun a w K hK => wpOp_of_run rfl rfl (run_allocC a _ rfl w) hK) rfl ?_
  simp only [List.take_succ_cons, List.take_zero, List.drop_succ_cons, List.drop_zero, List.eraseIdx_cons_succ, List.eraseIdx_cons_zero]
  refine upW_val (by rfl) (by rfl) (by rfl) (fun K hK => quiet_load_row _ _ rfl N rfl 135 _ (0, 0) _ HR1.out Tryd.underlying135 rfl HSA.out (hK _ ?_))
  simp only [Act.put, List.setIfInBounds_toArray, List.set]
  refine upW_call (by rfl) (by rfl) (.agg (nums .u64 (w4 7237005577332262213973186563042994240829374041602535252466099000494570602494))) _ rfl (by simp) (fun p => ?_) ?_
  · go_big_quiet_op
    exact ⟨_, fun q => Calls.ext_of (HBL.out q.x), rfl⟩
  simp only [Act.put, List.setIfInBounds_toArray, List.set]
  refine upW_call (by rfl) (by rfl) (.agg (nums .u64 (w4 g))) _ rfl (by simp) (fun p => ?_) ?_
  · go_big_quiet_op
    exact ⟨_, fun q => Calls.ext_of (HP1.out q.x), rfl⟩
  simp only [Act.put, List.setIfInBounds_toArray, List.set]
  refine upW_nil (fun M wm hM hbm hom => ?_)
  simp only [List.setIfInBounds_toArray]
  have HOM := Lib.hid hom
  have HC1 := Lib.hid (HR1.out.ext hbm)
  have HC2 := Lib.hid (HR2.out.ext hbm)
  have hMN : N + 1 < M := Nat.lt_of_lt_of_le HR2.out.lt hM
  have HCB := Lib.hid (HB1.out.trans (hbm.mono (show N ≤ W1.heap.size by have := HR2.out.lt; omega)))
  clear hom hbm HR1 HR2 HB1
  go_wp2_with (refine wpList_store_row rfl 135 _ _ rfl M (nums .u64 (w4 g)) rfl rfl 135 _ HOM.out HSG.out ?hold (nums_one _ _) (Stop.out ?_))
  case hold => rw [size_nums, size_nums, zer_len]; rfl
  generalize hWS : World.setRow _ _ _ = ws
  have HD1 := Lib.hid (show RW ws N .u64 135 (w4 a) by subst hWS; exact HC1.out.other (setRow_other _ _ _ _ (by omega)))
  have HD2 := Lib.hid (show RW ws (N + 1) .u64 135 (zer 4) by subst hWS; exact HC2.out.other (setRow_other _ _ _ _ (by omega)))
  have HD3 := Lib.hid (show RW ws M .u64 135 (w4 g) by subst hWS; exact setRow_heap _ _ _ _ _ _ HOM.out)
  have HDB := Lib.hid (show Below N w ws by subst hWS; exact Below.setRow HCB.out (by omega) _)
  clear hWS HC1 HC2 HOM HCB
  refine ⟨?_⟩
  go_wp2_with (first
    | (refine wpList_load_row rfl 135 _ rfl M rfl 135 (nums .u64 (w4 g)) (0, 0) _ HD3.out Tryd.underlying135 rfl HSG.out ?_)
    | (refine wpList_load_row rfl 135 _ rfl N rfl 135 (nums .u64 (w4 a)) (0, 0) _ HD1.out Tryd.underlying135 rfl HSA.out ?_)
    )
  refine (HI1.out _).mono ?_
  rintro e3 w3 ⟨rfl, hb3⟩
  have HE1 := Lib.hid (HD1.out.ext hb3)
  have HE2 := Lib.hid (HD2.out.ext hb3)
  have HE3 := Lib.hid (HD3.out.ext hb3)
  have HEB := Lib.hid (HDB.out.trans (hb3.mono (show N ≤ ws.heap.size by have := HD2.out.lt; omega)))
  clear hb3 HD1 HD2 HD3 HDB
  by_cases h1 : mu g g % 57896044618658097711785492504343953926634992332820282019728792003956564819949 = a
  · have hd : decide (mu g g % 57896044618658097711785492504343953926634992332820282019728792003956564819949 = a) = true := by simpa using h1
    rw [if_pos h1] at HRT
    rw [hd]
    clear h1 hd
    go_wp2_with (refine wpList_load_row rfl 135 _ rfl M rfl 135 (nums .u64 (w4 g)) (0, 0) _ HE3.out Tryd.underlying135 rfl HSG.out ?_)
    refine (HM1.out _).mono ?_
    rintro e5 w5 ⟨rfl, hb5⟩
    have HF2 := Lib.hid (HE2.out.ext hb5)
    have HFB := Lib.hid (HEB.out.trans (hb5.mono (show N ≤ _ by have := HE2.out.lt; omega)))
    have HO := Lib.hid (show (nums .u64 (zer 4)).size = (nums .u64 (w4 (g % 57896044618658097711785492504343953926634992332820282019728792003956564819949))).size by rw [size_nums, size_nums, zer_len, w4_len])
    clear hb5
    go_wp2_with (refine wpList_store_row rfl 135 _ _ rfl (N + 1) (nums .u64 (w4 (g % 57896044618658097711785492504343953926634992332820282019728792003956564819949))) rfl rfl 135 _ HF2.out HSGR.out HO.out (nums_one _ _) ?_)
    refine bodyPost_ret (results_cell_slot (p := 2) (q := 3) (by rfl) _ _ (N + 1) 135 (nums .u64 (w4 (g % 57896044618658097711785492504343953926634992332820282019728792003956564819949))) (0, 0) _ (.bool true) (by rfl) (setRow_heap _ _ _ _ _ _ HF2.out) Tryd.underlying135 rfl HSGR.out rfl) rfl ⟨by rw [HRT.out], ?_⟩
    rw [HN.out]
    exact Below.setRow HFB.out (by omega) _
  · have hd : decide (mu g g % 57896044618658097711785492504343953926634992332820282019728792003956564819949 = a) = false := by simpa using h1
    rw [if_neg h1] at HRT
    rw [hd]
    clear h1 hd
    go_wp2_with (refine wpList_build' rfl 135 _ rfl (nums .u64 (w4 2)) (by kernel_rfl) ?_)
    refine (HBM.out _).mono ?_
    rintro e4 w4' ⟨rfl, hb4⟩
    have HF1 := Lib.hid (HE1.out.ext hb4)
    have HF2 := Lib.hid (HE2.out.ext hb4)
    have HF3 := Lib.hid (HE3.out.ext hb4)
    have HFB := Lib.hid (HEB.out.trans (hb4.mono (show N ≤ w3.heap.size by have := HE2.out.lt; omega)))
    clear hb4 HE1 HE2 HE3 HEB
    go_wp2_with fail
    refine (HP2.out _).mono ?_
    rintro e5 w5 ⟨rfl, hb5⟩
    have HG1 := Lib.hid (HF1.out.ext hb5)
    have HG2 := Lib.hid (HF2.out.ext hb5)
    have HG3 := Lib.hid (HF3.out.ext hb5)
    have HGB := Lib.hid (HFB.out.trans (hb5.mono (show N ≤ w4'.heap.size by have := HF2.out.lt; omega)))
    clear hb5 HF1 HF2 HF3 HFB
    go_wp2_with fail
    refine (HTM.out M w5 HG3.out).mono ?_
    rintro e6 w6 ⟨rfl, hq, hqx⟩
    have HH1 := Lib.hid (HG1.out.belowX hqx (by omega))
    have HH2 := Lib.hid (HG2.out.belowX hqx (by omega))
    have HH3 := Lib.hid hq
    have HHB := Lib.hid (below_x HGB.out hqx (by omega) (by have := HG2.out.lt; omega))
    clear hq hqx HG1 HG2 HG3 HGB
    go_wp2_with (first
      | (refine wpList_load_row rfl 135 _ rfl M rfl 135 (nums .u64 (w4 h)) (0, 0) _ HH3.out Tryd.underlying135 rfl HSH.out ?_)
      | (refine wpList_load_row rfl 135 _ rfl N rfl 135 (nums .u64 (w4 a)) (0, 0) _ HH1.out Tryd.underlying135 rfl HSA.out ?_)
      )
    refine (HI2.out _).mono ?_
    rintro e7 w7 ⟨rfl, hb7⟩
    have HE2 := Lib.hid (HH2.out.ext hb7)
    have HE3 := Lib.hid (HH3.out.ext hb7)
    have HEB := Lib.hid (HHB.out.trans (hb7.mono (show N ≤ w6.heap.size by have := HH2.out.lt; omega)))
    clear hb7 HH1 HH2 HH3 HHB
    by_cases h1 : mu h h % 57896044618658097711785492504343953926634992332820282019728792003956564819949 = a
    · have hd : decide (mu h h % 57896044618658097711785492504343953926634992332820282019728792003956564819949 = a) = true := by simpa using h1
      rw [if_pos h1] at HRT
      rw [hd]
      clear h1 hd
      go_wp2_with (refine wpList_load_row rfl 135 _ rfl M rfl 135 (nums .u64 (w4 h)) (0, 0) _ HE3.out Tryd.underlying135 rfl HSH.out ?_)
      refine (HM2.out _).mono ?_
      rintro e5 w5 ⟨rfl, hb5⟩
      have HF2 := Lib.hid (HE2.out.ext hb5)
      have HFB := Lib.hid (HEB.out.trans (hb5.mono (show N ≤ _ by have := HE2.out.lt; omega)))
      have HO := Lib.hid (show (nums .u64 (zer 4)).size = (nums .u64 (w4 (h % 57896044618658097711785492504343953926634992332820282019728792003956564819949))).size by rw [size_nums, size_nums, zer_len, w4_len])
      clear hb5
      go_wp2_with (refine wpList_store_row rfl 135 _ _ rfl (N + 1) (nums .u64 (w4 (h % 57896044618658097711785492504343953926634992332820282019728792003956564819949))) rfl rfl 135 _ HF2.out HSHR.out HO.out (nums_one _ _) ?_)
      refine bodyPost_ret (results_cell_slot (p := 2) (q := 3) (by rfl) _ _ (N + 1) 135 (nums .u64 (w4 (h % 57896044618658097711785492504343953926634992332820282019728792003956564819949))) (0, 0) _ (.bool true) (by rfl) (setRow_heap _ _ _ _ _ _ HF2.out) Tryd.underlying135 rfl HSHR.out rfl) rfl ⟨by rw [HRT.out], ?_⟩
      rw [HN.out]
      exact Below.setRow HFB.out (by omega) _
    · have hd : decide (mu h h % 57896044618658097711785492504343953926634992332820282019728792003956564819949 = a) = false := by simpa using h1
      rw [if_neg h1] at HRT
      rw [hd]
      clear h1 hd
      have HO := Lib.hid (show (nums .u64 (zer 4)).size = (nums .u64 (w4 0)).size by rw [size_nums, size_nums, zer_len, w4_len])
      go_wp2_with (first
        | (refine wpList_build' rfl 135 _ rfl (nums .u64 (w4 0)) (by kernel_rfl) ?_)
        | (refine wpList_store_row rfl 135 _ _ rfl (N + 1) (nums .u64 (w4 0)) rfl rfl 135 _ HE2.out HS0.out HO.out (nums_one _ _) ?_)
        )
      refine bodyPost_ret (results_cell_slot (p := 2) (q := 3) (by rfl) _ _ (N + 1) 135 (nums .u64 (w4 0)) (0, 0) _ (.bool false) (by rfl) (setRow_heap _ _ _ _ _ _ HE2.out) Tryd.underlying135 rfl HS0.out rfl) rfl ⟨by rw [HRT.out], ?_⟩
      rw [HN.out]
      exact Below.setRow HEB.out (by omega) _
end Go.Proofs.YtlpchgoaoglhcaaDoor
namespace Go.Proofs.YtlpchgoaoglhcaaDoor
open Go.RowKit
theorem BT.ext {w : World} {b : Nat} {t : TypeId} {l : List UInt8} (h : BT w b t l) {w' : World} (p : Below w.heap.size w w') : BT w' b t l := h.other (p.block b (Array.getElem?_eq_some_iff.1 h).1)
theorem BT.lt {w : World} {b : Nat} {t : TypeId} {l : List UInt8} (h : BT w b t l) : b < w.heap.size := (Array.getElem?_eq_some_iff.1 h).1
theorem BT.belowX {w w' : World} {b c : Nat} {t : TypeId} {l : List UInt8} (h : BT w b t l) (hb : BelowX w.heap.size c w w') (hc : b ≠ c) : BT w' b t l := h.other (hb.block b h.lt hc)
theorem oN (l m : List UInt8) (hl : l.length = 32) (hm : m.length = 32) : (byteVals l).toArray.size = (byteVals m).toArray.size := by rw [size_byteVals, size_byteVals, hl, hm]
/-- The numbers that package field tells of numbers. -/
def fAdd (a b : Nat) : Nat := (a % 57896044618658097711785492504343953926634992332820282019728792003956564819949 + b % 57896044618658097711785492504343953926634992332820282019728792003956564819949) % 57896044618658097711785492504343953926634992332820282019728792003956564819949
def fSub (a b : Nat) : Nat := (a % 57896044618658097711785492504343953926634992332820282019728792003956564819949 + 57896044618658097711785492504343953926634992332820282019728792003956564819949 - b % 57896044618658097711785492504343953926634992332820282019728792003956564819949) % 57896044618658097711785492504343953926634992332820282019728792003956564819949
def fMul (a b : Nat) : Nat := mu a b % 57896044618658097711785492504343953926634992332820282019728792003956564819949
def fInv (a : Nat) : Nat := pw a 57896044618658097711785492504343953926634992332820282019728792003956564819947 % 57896044618658097711785492504343953926634992332820282019728792003956564819949
def fRoot (a : Nat) : Nat × Bool := if (rt (a % 57896044618658097711785492504343953926634992332820282019728792003956564819949)).2 = true then (if (rt (a % 57896044618658097711785492504343953926634992332820282019728792003956564819949)).1 % 2 = 1 then (0 + 57896044618658097711785492504343953926634992332820282019728792003956564819949 - (rt (a % 57896044618658097711785492504343953926634992332820282019728792003956564819949)).1) % 57896044618658097711785492504343953926634992332820282019728792003956564819949 else (rt (a % 57896044618658097711785492504343953926634992332820282019728792003956564819949)).1, true) else (0, false)
theorem rt_lt (a : Nat) (_h : a < 57896044618658097711785492504343953926634992332820282019728792003956564819949) : (rt a).1 < 57896044618658097711785492504343953926634992332820282019728792003956564819949 := by
  unfold rt
  split
  · exact Nat.mod_lt _ (by decide)
  · split
    · exact Nat.mod_lt _ (by decide)
    · show 0 < 57896044618658097711785492504343953926634992332820282019728792003956564819949; decide
set_option maxRecDepth 100000 in
set_option maxHeartbeats 1000000 in
theorem Of_any (n : Nat) (w : World) (hn : n < 18446744073709551616) :
    Calls Tryd.prog 76 #[.int .u64 n] w fun e w' => e = .returned (.agg (byteVals (b32 n)).toArray) ∧ Below w.heap.size w w' := by
  have HSX := Lib.hid (sN (b32 n) (b32_len _))
  have HOX := Lib.hid (oN (zerB 32) (b32 n) (zerB_len 32) (b32_len _))
  have HNM := Lib.hid (fun w => numC_any n w)
  rw [show w4 n = [n, 0, 0, 0] from w4_of n 0 0 0 n hn (by decide) (by decide) (by decide) (by omega)] at HNM
  clear hn
  have hz := zN
  have hzC := zC
  go_enter Tryd.func76, Tryd.ntmps76
  go_upto_region 1 with fail
  generalize hW1 : World.alloc _ _ = W1
  obtain ⟨N, hN⟩ : ∃ n, w.heap.size = n := ⟨_, rfl⟩
  have HRZ := Lib.hid (show BT W1 N 102 (zerB 32) by subst hW1; rw [← hN]; exact Go.heap_alloc_new _ _)
  have HB := Lib.hid (show Below N w W1 by subst hW1; rw [← hN]; exact (Below.refl _ w).alloc (Nat.le_refl _) _)
  have HN := Lib.hid hN
  rw [hN]
  clear hW1 hN
  go_wp2_with (refine wpList_build' rfl 135 _ rfl (nums .u64 [n, 0, 0, 0]) (by kernel_rfl) ?_)
  refine (HNM.out _).mono ?_
  rintro e wu1 ⟨rfl, hb1⟩
  have HRZx1 := Lib.hid (HRZ.out.ext hb1)
  have HBx1 := Lib.hid (HB.out.trans (hb1.mono (show N ≤ _ by have := HRZ.out.lt; omega)))
  clear hb1 HRZ HB
  have HRZ := HRZx1
  have HB := HBx1
  clear HRZx1 HBx1
  go_wp2_with (refine wpList_store_row rfl 102 _ _ rfl N ((byteVals (b32 n)).toArray) rfl rfl 102 _ HRZ.out HSX.out HOX.out (byteVals_one _) ?_)
  refine bodyPost_ret (results_cell_row (by rfl) _ _ N 102 ((byteVals (b32 n)).toArray) (0, 0) _ (by rfl) (setRow_heap _ _ _ _ _ _ HRZ.out) Tryd.underlying102 rfl HSX.out) rfl ⟨rfl, ?_⟩
  rw [HN.out]
  exact Below.setRow HB.out (by omega) _
set_option maxRecDepth 100000 in
set_option maxHeartbeats 1000000 in
theorem Good_any (l : List UInt8) (w : World) (hl : l.length = 32) :
    Calls Tryd.prog 70 #[.agg (byteVals l).toArray] w fun e w' => e = .returned (.bool (decide (le l < 57896044618658097711785492504343953926634992332820282019728792003956564819949))) ∧ Below w.heap.size w w' := by
  have HSL := Lib.hid (sN l hl)
  have HOF := Lib.hid (fun w => ofC_any l w hl)
  have HPR := Lib.hid (fun w => primeC_any w)
  have HLE := Lib.hid (fun w => lessC_any (le l) 57896044618658097711785492504343953926634992332820282019728792003956564819949 w (le_32 l hl) (by decide))
  clear hl
  have hz := zN
  have hzC := zC
  go_enter Tryd.func70, Tryd.ntmps70
  go_upto_region 1 with fail
  generalize hW1 : World.alloc _ _ = W1
  obtain ⟨N, hN⟩ : ∃ n, w.heap.size = n := ⟨_, rfl⟩
  have HR0 := Lib.hid (show BT W1 N 102 l by subst hW1; rw [← hN]; exact Go.heap_alloc_new _ _)
  have HB := Lib.hid (show Below N w W1 by subst hW1; rw [← hN]; exact (Below.refl _ w).alloc (Nat.le_refl _) _)
  have HN := Lib.hid hN
  rw [hN]
  clear hW1 hN
  go_wp2_with (refine wpList_load_row rfl 102 _ rfl N rfl 102 ((byteVals l).toArray) (0, 0) _ HR0.out Tryd.underlying102 rfl HSL.out ?_)
  refine (HOF.out _).mono ?_
  rintro e wu2 ⟨rfl, hb2⟩
  have HR0x2 := Lib.hid (HR0.out.ext hb2)
  have HBx2 := Lib.hid (HB.out.trans (hb2.mono (show N ≤ _ by have := HR0.out.lt; omega)))
  clear hb2 HR0 HB
  have HR0 := HR0x2
  have HB := HBx2
  clear HR0x2 HBx2
  go_wp2_with fail
  refine (HPR.out _).mono ?_
  rintro e wu3 ⟨rfl, hb3⟩
  have HR0x3 := Lib.hid (HR0.out.ext hb3)
  have HBx3 := Lib.hid (HB.out.trans (hb3.mono (show N ≤ _ by have := HR0.out.lt; omega)))
  clear hb3 HR0 HB
  have HR0 := HR0x3
  have HB := HBx3
  clear HR0x3 HBx3
  go_wp2_with fail
  refine (HLE.out _).mono ?_
  rintro e wu4 ⟨rfl, hb4⟩
  have HR0x4 := Lib.hid (HR0.out.ext hb4)
  have HBx4 := Lib.hid (HB.out.trans (hb4.mono (show N ≤ _ by have := HR0.out.lt; omega)))
  clear hb4 HR0 HB
  have HR0 := HR0x4
  have HB := HBx4
  clear HR0x4 HBx4
  go_wp2
  go_ret
  exact ⟨rfl, HN.out.symm ▸ HB.out⟩
set_option maxRecDepth 100000 in
set_option maxHeartbeats 1000000 in
theorem Rest_any (l : List UInt8) (w : World) (hl : l.length = 32) :
    Calls Tryd.prog 73 #[.agg (byteVals l).toArray] w fun e w' => e = .returned (.agg (byteVals (b32 (le l % 57896044618658097711785492504343953926634992332820282019728792003956564819949))).toArray) ∧ Below w.heap.size w w' := by
  have HSL := Lib.hid (sN l hl)
  have HOF := Lib.hid (fun w => ofC_any l w hl)
  have HRE := Lib.hid (fun w => restC_any (le l) w (le_32 l hl))
  obtain ⟨x, hx⟩ : ∃ x, le l % 57896044618658097711785492504343953926634992332820282019728792003956564819949 = x := ⟨_, rfl⟩
  rw [hx] at HRE
  rw [hx]
  have HNM := Lib.hid (fun w => numC_any x w)
  have HSX := Lib.hid (sN (b32 x) (b32_len _))
  have HOX := Lib.hid (oN (zerB 32) (b32 x) (zerB_len 32) (b32_len _))
  clear hl hx
  have hz := zN
  have hzC := zC
  go_enter Tryd.func73, Tryd.ntmps73
  go_upto_region 1 with fail
  generalize hW1 : World.alloc _ _ = W1
  obtain ⟨N, hN⟩ : ∃ n, w.heap.size = n := ⟨_, rfl⟩
  have HR0 := Lib.hid (show BT W1 N 102 l by subst hW1; rw [← hN]; exact (alloc2_at w _ _).1)
  have HRZ := Lib.hid (show BT W1 (N + 1) 102 (zerB 32) by subst hW1; rw [← hN]; exact (alloc2_at w _ _).2)
  have HB := Lib.hid (show Below N w W1 by subst hW1; rw [← hN]; exact ((Below.refl _ w).alloc (Nat.le_refl _) _).alloc (by simp) _)
  have HN := Lib.hid hN
  rw [hN]
  clear hW1 hN
  go_wp2_with (refine wpList_load_row rfl 102 _ rfl N rfl 102 ((byteVals l).toArray) (0, 0) _ HR0.out Tryd.underlying102 rfl HSL.out ?_)
  refine (HOF.out _).mono ?_
  rintro e wu5 ⟨rfl, hb5⟩
  have HR0x5 := Lib.hid (HR0.out.ext hb5)
  have HRZx5 := Lib.hid (HRZ.out.ext hb5)
  have HBx5 := Lib.hid (HB.out.trans (hb5.mono (show N ≤ _ by have := HRZ.out.lt; omega)))
  clear hb5 HR0 HRZ HB
  have HR0 := HR0x5
  have HRZ := HRZx5
  have HB := HBx5
  clear HR0x5 HRZx5 HBx5
  go_wp2_with fail
  refine (HRE.out _).mono ?_
  rintro e wu6 ⟨rfl, hb6⟩
  have HR0x6 := Lib.hid (HR0.out.ext hb6)
  have HRZx6 := Lib.hid (HRZ.out.ext hb6)
  have HBx6 := Lib.hid (HB.out.trans (hb6.mono (show N ≤ _ by have := HRZ.out.lt; omega)))
  clear hb6 HR0 HRZ HB
  have HR0 := HR0x6
  have HRZ := HRZx6
  have HB := HBx6
  clear HR0x6 HRZx6 HBx6
  go_wp2_with fail
  refine (HNM.out _).mono ?_
  rintro e wu7 ⟨rfl, hb7⟩
  have HR0x7 := Lib.hid (HR0.out.ext hb7)
  have HRZx7 := Lib.hid (HRZ.out.ext hb7)
  have HBx7 := Lib.hid (HB.out.trans (hb7.mono (show N ≤ _ by have := HRZ.out.lt; omega)))
  clear hb7 HR0 HRZ HB
  have HR0 := HR0x7
  have HRZ := HRZx7
  have HB := HBx7
  clear HR0x7 HRZx7 HBx7
  go_wp2_with (refine wpList_store_row rfl 102 _ _ rfl (N + 1) ((byteVals (b32 x)).toArray) rfl rfl 102 _ HRZ.out HSX.out HOX.out (byteVals_one _) ?_)
  refine bodyPost_ret (results_cell_row (by rfl) _ _ (N + 1) 102 ((byteVals (b32 x)).toArray) (0, 0) _ (by rfl) (setRow_heap _ _ _ _ _ _ HRZ.out) Tryd.underlying102 rfl HSX.out) rfl ⟨rfl, ?_⟩
  rw [HN.out]
  exact Below.setRow HB.out (by omega) _
set_option maxRecDepth 100000 in
set_option maxHeartbeats 1000000 in
theorem Odd_any (l : List UInt8) (w : World) (hl : l.length = 32) :
    Calls Tryd.prog 74 #[.agg (byteVals l).toArray] w fun e w' => e = .returned (.bool (decide (le l % 57896044618658097711785492504343953926634992332820282019728792003956564819949 % 2 = 1))) ∧ Below w.heap.size w w' := by
  have HSL := Lib.hid (sN l hl)
  have HOF := Lib.hid (fun w => ofC_any l w hl)
  have HRE := Lib.hid (fun w => restC_any (le l) w (le_32 l hl))
  obtain ⟨x, hx⟩ : ∃ x, le l % 57896044618658097711785492504343953926634992332820282019728792003956564819949 = x := ⟨_, rfl⟩
  rw [hx] at HRE
  rw [hx]
  have HOD := Lib.hid (fun w => oddC_any x w)
  clear hl hx
  have hz := zN
  have hzC := zC
  go_enter Tryd.func74, Tryd.ntmps74
  go_upto_region 1 with fail
  generalize hW1 : World.alloc _ _ = W1
  obtain ⟨N, hN⟩ : ∃ n, w.heap.size = n := ⟨_, rfl⟩
  have HR0 := Lib.hid (show BT W1 N 102 l by subst hW1; rw [← hN]; exact Go.heap_alloc_new _ _)
  have HB := Lib.hid (show Below N w W1 by subst hW1; rw [← hN]; exact (Below.refl _ w).alloc (Nat.le_refl _) _)
  have HN := Lib.hid hN
  rw [hN]
  clear hW1 hN
  go_wp2_with (refine wpList_load_row rfl 102 _ rfl N rfl 102 ((byteVals l).toArray) (0, 0) _ HR0.out Tryd.underlying102 rfl HSL.out ?_)
  refine (HOF.out _).mono ?_
  rintro e wu8 ⟨rfl, hb8⟩
  have HR0x8 := Lib.hid (HR0.out.ext hb8)
  have HBx8 := Lib.hid (HB.out.trans (hb8.mono (show N ≤ _ by have := HR0.out.lt; omega)))
  clear hb8 HR0 HB
  have HR0 := HR0x8
  have HB := HBx8
  clear HR0x8 HBx8
  go_wp2_with fail
  refine (HRE.out _).mono ?_
  rintro e wu9 ⟨rfl, hb9⟩
  have HR0x9 := Lib.hid (HR0.out.ext hb9)
  have HBx9 := Lib.hid (HB.out.trans (hb9.mono (show N ≤ _ by have := HR0.out.lt; omega)))
  clear hb9 HR0 HB
  have HR0 := HR0x9
  have HB := HBx9
  clear HR0x9 HBx9
  go_wp2_with fail
  refine (HOD.out _).mono ?_
  rintro e wu10 ⟨rfl, hb10⟩
  have HR0x10 := Lib.hid (HR0.out.ext hb10)
  have HBx10 := Lib.hid (HB.out.trans (hb10.mono (show N ≤ _ by have := HR0.out.lt; omega)))
  clear hb10 HR0 HB
  have HR0 := HR0x10
  have HB := HBx10
  clear HR0x10 HBx10
  go_wp2
  go_ret
  exact ⟨rfl, HN.out.symm ▸ HB.out⟩
set_option maxRecDepth 100000 in
set_option maxHeartbeats 1000000 in
theorem Inv_any (l : List UInt8) (w : World) (hl : l.length = 32) :
    Calls Tryd.prog 81 #[.agg (byteVals l).toArray] w fun e w' => e = .returned (.agg (byteVals (b32 (fInv (le l)))).toArray) ∧ Below w.heap.size w w' := by
  have HSL := Lib.hid (sN l hl)
  have HOF := Lib.hid (fun w => ofC_any l w hl)
  have HIN := Lib.hid (fun w => inverseC_any (le l) w (le_32 l hl))
  have hpl := pw_lt (le l) 57896044618658097711785492504343953926634992332820282019728792003956564819947
  have hfi : pw (le l) 57896044618658097711785492504343953926634992332820282019728792003956564819947 % 57896044618658097711785492504343953926634992332820282019728792003956564819949 = fInv (le l) := rfl
  obtain ⟨y, hy⟩ : ∃ x, pw (le l) 57896044618658097711785492504343953926634992332820282019728792003956564819947 = x := ⟨_, rfl⟩
  rw [hy] at HIN hpl hfi
  have HRE := Lib.hid (fun w => restC_any y w hpl)
  rw [hfi] at HRE
  obtain ⟨x, hx⟩ : ∃ x, fInv (le l) = x := ⟨_, rfl⟩
  rw [hx] at HRE
  rw [hx]
  have HNM := Lib.hid (fun w => numC_any x w)
  have HSX := Lib.hid (sN (b32 x) (b32_len _))
  have HOX := Lib.hid (oN (zerB 32) (b32 x) (zerB_len 32) (b32_len _))
  clear hl hx hy hpl hfi
  have hz := zN
  have hzC := zC
  go_enter Tryd.func81, Tryd.ntmps81
  go_upto_region 1 with fail
  generalize hW1 : World.alloc _ _ = W1
  obtain ⟨N, hN⟩ : ∃ n, w.heap.size = n := ⟨_, rfl⟩
  have HR0 := Lib.hid (show BT W1 N 102 l by subst hW1; rw [← hN]; exact (alloc2_at w _ _).1)
  have HRZ := Lib.hid (show BT W1 (N + 1) 102 (zerB 32) by subst hW1; rw [← hN]; exact (alloc2_at w _ _).2)
  have HB := Lib.hid (show Below N w W1 by subst hW1; rw [← hN]; exact ((Below.refl _ w).alloc (Nat.le_refl _) _).alloc (by simp) _)
  have HN := Lib.hid hN
  rw [hN]
  clear hW1 hN
  go_wp2_with (refine wpList_load_row rfl 102 _ rfl N rfl 102 ((byteVals l).toArray) (0, 0) _ HR0.out Tryd.underlying102 rfl HSL.out ?_)
  refine (HOF.out _).mono ?_
  rintro e wu11 ⟨rfl, hb11⟩
  have HR0x11 := Lib.hid (HR0.out.ext hb11)
  have HRZx11 := Lib.hid (HRZ.out.ext hb11)
  have HBx11 := Lib.hid (HB.out.trans (hb11.mono (show N ≤ _ by have := HRZ.out.lt; omega)))
  clear hb11 HR0 HRZ HB
  have HR0 := HR0x11
  have HRZ := HRZx11
  have HB := HBx11
  clear HR0x11 HRZx11 HBx11
  go_wp2_with fail
  refine (HIN.out _).mono ?_
  rintro e wu12 ⟨rfl, hb12⟩
  have HR0x12 := Lib.hid (HR0.out.ext hb12)
  have HRZx12 := Lib.hid (HRZ.out.ext hb12)
  have HBx12 := Lib.hid (HB.out.trans (hb12.mono (show N ≤ _ by have := HRZ.out.lt; omega)))
  clear hb12 HR0 HRZ HB
  have HR0 := HR0x12
  have HRZ := HRZx12
  have HB := HBx12
  clear HR0x12 HRZx12 HBx12
  go_wp2_with fail
  refine (HRE.out _).mono ?_
  rintro e wu13 ⟨rfl, hb13⟩
  have HR0x13 := Lib.hid (HR0.out.ext hb13)
  have HRZx13 := Lib.hid (HRZ.out.ext hb13)
  have HBx13 := Lib.hid (HB.out.trans (hb13.mono (show N ≤ _ by have := HRZ.out.lt; omega)))
  clear hb13 HR0 HRZ HB
  have HR0 := HR0x13
  have HRZ := HRZx13
  have HB := HBx13
  clear HR0x13 HRZx13 HBx13
  go_wp2_with fail
  refine (HNM.out _).mono ?_
  rintro e wu14 ⟨rfl, hb14⟩
  have HR0x14 := Lib.hid (HR0.out.ext hb14)
  have HRZx14 := Lib.hid (HRZ.out.ext hb14)
  have HBx14 := Lib.hid (HB.out.trans (hb14.mono (show N ≤ _ by have := HRZ.out.lt; omega)))
  clear hb14 HR0 HRZ HB
  have HR0 := HR0x14
  have HRZ := HRZx14
  have HB := HBx14
  clear HR0x14 HRZx14 HBx14
  go_wp2_with (refine wpList_store_row rfl 102 _ _ rfl (N + 1) ((byteVals (b32 x)).toArray) rfl rfl 102 _ HRZ.out HSX.out HOX.out (byteVals_one _) ?_)
  refine bodyPost_ret (results_cell_row (by rfl) _ _ (N + 1) 102 ((byteVals (b32 x)).toArray) (0, 0) _ (by rfl) (setRow_heap _ _ _ _ _ _ HRZ.out) Tryd.underlying102 rfl HSX.out) rfl ⟨rfl, ?_⟩
  rw [HN.out]
  exact Below.setRow HB.out (by omega) _
set_option maxRecDepth 100000 in
set_option maxHeartbeats 1000000 in
theorem Sub_any (l m : List UInt8) (w : World) (hl : l.length = 32) (hm : m.length = 32) :
    Calls Tryd.prog 75 #[.agg (byteVals l).toArray, .agg (byteVals m).toArray] w fun e w' => e = .returned (.agg (byteVals (b32 (fSub (le l) (le m)))).toArray) ∧ Below w.heap.size w w' := by
  have HSL := Lib.hid (sN l hl)
  have HSM := Lib.hid (sN m hm)
  have HOL := Lib.hid (fun w => ofC_any l w hl)
  have HOM := Lib.hid (fun w => ofC_any m w hm)
  have HRL := Lib.hid (fun w => restC_any (le l) w (le_32 l hl))
  have HRM := Lib.hid (fun w => restC_any (le m) w (le_32 m hm))
  have hal : le l % 57896044618658097711785492504343953926634992332820282019728792003956564819949 < 57896044618658097711785492504343953926634992332820282019728792003956564819949 := Nat.mod_lt _ (by decide)
  have hbl : le m % 57896044618658097711785492504343953926634992332820282019728792003956564819949 < 57896044618658097711785492504343953926634992332820282019728792003956564819949 := Nat.mod_lt _ (by decide)
  have HMI := Lib.hid (fun w => minusC_any (le l % 57896044618658097711785492504343953926634992332820282019728792003956564819949) (le m % 57896044618658097711785492504343953926634992332820282019728792003956564819949) w hal hbl)
  rw [show (le l % 57896044618658097711785492504343953926634992332820282019728792003956564819949 + 57896044618658097711785492504343953926634992332820282019728792003956564819949 - le m % 57896044618658097711785492504343953926634992332820282019728792003956564819949) % 57896044618658097711785492504343953926634992332820282019728792003956564819949 = fSub (le l) (le m) from rfl] at HMI
  obtain ⟨x, hx⟩ : ∃ x, fSub (le l) (le m) = x := ⟨_, rfl⟩
  rw [hx] at HMI
  rw [hx]
  obtain ⟨a, ha⟩ : ∃ x, le l % 57896044618658097711785492504343953926634992332820282019728792003956564819949 = x := ⟨_, rfl⟩
  obtain ⟨b, hb⟩ : ∃ x, le m % 57896044618658097711785492504343953926634992332820282019728792003956564819949 = x := ⟨_, rfl⟩
  rw [ha] at HRL HMI
  rw [hb] at HRM HMI
  have HNM := Lib.hid (fun w => numC_any x w)
  have HSX := Lib.hid (sN (b32 x) (b32_len _))
  have HOX := Lib.hid (oN (zerB 32) (b32 x) (zerB_len 32) (b32_len _))
  clear hl hm hx ha hb hal hbl
  have hz := zN
  have hzC := zC
  go_enter Tryd.func75, Tryd.ntmps75
  go_upto_region 1 with fail
  generalize hW1 : World.alloc _ _ = W1
  obtain ⟨N, hN⟩ : ∃ n, w.heap.size = n := ⟨_, rfl⟩
  have HR0 := Lib.hid (show BT W1 N 102 l by subst hW1; rw [← hN]; exact (alloc3_at w _ _ _).1)
  have HR1 := Lib.hid (show BT W1 (N + 1) 102 m by subst hW1; rw [← hN]; exact (alloc3_at w _ _ _).2.1)
  have HRZ := Lib.hid (show BT W1 (N + 1 + 1) 102 (zerB 32) by subst hW1; rw [← hN]; exact (alloc3_at w _ _ _).2.2)
  have HB := Lib.hid (show Below N w W1 by subst hW1; rw [← hN]; exact Below.alloc3 w _ _ _)
  have HN := Lib.hid hN
  rw [hN]
  clear hW1 hN
  refine wp_region_up 8 8 (by kernel_rfl) (by kernel_rfl) (fun _ _ dst _ _ h => by cases dst <;> exact h) ?_
  simp only [List.take_succ_cons, List.take_zero, List.drop_succ_cons, List.drop_zero]
  refine upW_val (by rfl) (by rfl) (by rfl) (fun K hK => quiet_load_row _ _ rfl N rfl 102 _ (0, 0) _ HR0.out Tryd.underlying102 rfl HSL.out (hK _ ?_))
  simp only [Act.put, List.setIfInBounds_toArray, List.set]
  refine upW_call (by rfl) (by rfl) (.agg (nums .u64 (w4 (le l)))) _ rfl (by simp) (fun p => ?_) ?_
  · go_big_quiet_op
    exact ⟨_, fun q => Calls.ext_of (HOL.out q.x), rfl⟩
  simp only [Act.put, List.setIfInBounds_toArray, List.set]
  refine upW_call (by rfl) (by rfl) (.agg (nums .u64 (w4 a))) _ rfl (by simp) (fun p => ?_) ?_
  · go_big_quiet_op
    exact ⟨_, fun q => Calls.ext_of (HRL.out q.x), rfl⟩
  simp only [Act.put, List.setIfInBounds_toArray, List.set]
  refine upW_val (by rfl) (by rfl) (by rfl) (fun K hK => quiet_load_row _ _ rfl (N + 1) rfl 102 _ (0, 0) _ HR1.out Tryd.underlying102 rfl HSM.out (hK _ ?_))
  simp only [Act.put, List.setIfInBounds_toArray, List.set]
  refine upW_call (by rfl) (by rfl) (.agg (nums .u64 (w4 (le m)))) _ rfl (by simp) (fun p => ?_) ?_
  · go_big_quiet_op
    exact ⟨_, fun q => Calls.ext_of (HOM.out q.x), rfl⟩
  simp only [Act.put, List.setIfInBounds_toArray, List.set]
  refine upW_call (by rfl) (by rfl) (.agg (nums .u64 (w4 b))) _ rfl (by simp) (fun p => ?_) ?_
  · go_big_quiet_op
    exact ⟨_, fun q => Calls.ext_of (HRM.out q.x), rfl⟩
  simp only [Act.put, List.setIfInBounds_toArray, List.set]
  refine upW_call (by rfl) (by rfl) (.agg (nums .u64 (w4 x))) _ rfl (by simp) (fun p => ?_) ?_
  · go_big_quiet_op
    exact ⟨_, fun q => Calls.ext_of (HMI.out q.x), rfl⟩
  simp only [Act.put, List.setIfInBounds_toArray, List.set]
  refine upW_call (by rfl) (by rfl) (.agg (byteVals (b32 x)).toArray) _ rfl (by simp) (fun p => ?_) ?_
  · go_big_quiet_op
    exact ⟨_, fun q => Calls.ext_of (HNM.out q.x), rfl⟩
  simp only [Act.put, List.setIfInBounds_toArray, List.set]
  refine upW_nil (fun wy hby => ?_)
  have HR0x900 := Lib.hid (HR0.out.ext hby)
  have HR1x900 := Lib.hid (HR1.out.ext hby)
  have HRZx900 := Lib.hid (HRZ.out.ext hby)
  have HBx900 := Lib.hid (HB.out.trans (hby.mono (show N ≤ _ by have := HRZ.out.lt; omega)))
  clear hby HR0 HR1 HRZ HB
  have HR0 := HR0x900
  have HR1 := HR1x900
  have HRZ := HRZx900
  have HB := HBx900
  clear HR0x900 HR1x900 HRZx900 HBx900
  go_wp2_with (refine wpList_store_row rfl 102 _ _ rfl (N + 1 + 1) ((byteVals (b32 x)).toArray) rfl rfl 102 _ HRZ.out HSX.out HOX.out (byteVals_one _) ?_)
  refine bodyPost_ret (results_cell_row (by rfl) _ _ (N + 1 + 1) 102 ((byteVals (b32 x)).toArray) (0, 0) _ (by rfl) (setRow_heap _ _ _ _ _ _ HRZ.out) Tryd.underlying102 rfl HSX.out) rfl ⟨rfl, ?_⟩
  rw [HN.out]
  exact Below.setRow HB.out (by omega) _
set_option maxRecDepth 100000 in
set_option maxHeartbeats 1000000 in
theorem Add_any (l m : List UInt8) (w : World) (hl : l.length = 32) (hm : m.length = 32) :
    Calls Tryd.prog 82 #[.agg (byteVals l).toArray, .agg (byteVals m).toArray] w fun e w' => e = .returned (.agg (byteVals (b32 (fAdd (le l) (le m)))).toArray) ∧ Below w.heap.size w w' := by
  have HSL := Lib.hid (sN l hl)
  have HSM := Lib.hid (sN m hm)
  have HOL := Lib.hid (fun w => ofC_any l w hl)
  have HOM := Lib.hid (fun w => ofC_any m w hm)
  have HRL := Lib.hid (fun w => restC_any (le l) w (le_32 l hl))
  have HRM := Lib.hid (fun w => restC_any (le m) w (le_32 m hm))
  have hal : le l % 57896044618658097711785492504343953926634992332820282019728792003956564819949 < 57896044618658097711785492504343953926634992332820282019728792003956564819949 := Nat.mod_lt _ (by decide)
  have hbl : le m % 57896044618658097711785492504343953926634992332820282019728792003956564819949 < 57896044618658097711785492504343953926634992332820282019728792003956564819949 := Nat.mod_lt _ (by decide)
  obtain ⟨a, ha⟩ : ∃ x, le l % 57896044618658097711785492504343953926634992332820282019728792003956564819949 = x := ⟨_, rfl⟩
  obtain ⟨b, hb⟩ : ∃ x, le m % 57896044618658097711785492504343953926634992332820282019728792003956564819949 = x := ⟨_, rfl⟩
  rw [ha] at HRL hal
  rw [hb] at HRM hbl
  have hfx : fAdd (le l) (le m) = (a + b) % 57896044618658097711785492504343953926634992332820282019728792003956564819949 := by rw [← ha, ← hb]; rfl
  obtain ⟨s, hs⟩ : ∃ x, a + b = x := ⟨_, rfl⟩
  have HPL := Lib.hid (fun w => plusC_any a b s 0 w (by omega) (by omega) (by omega) (by omega))
  have HRS := Lib.hid (fun w => restC_any s w (by omega))
  rw [hs] at hfx
  rw [hfx]
  obtain ⟨x, hx⟩ : ∃ x, s % 57896044618658097711785492504343953926634992332820282019728792003956564819949 = x := ⟨_, rfl⟩
  rw [hx] at HRS
  rw [hx]
  have HNM := Lib.hid (fun w => numC_any x w)
  have HSS := Lib.hid (sC s)
  have HSX := Lib.hid (sN (b32 x) (b32_len _))
  have HOX := Lib.hid (oN (zerB 32) (b32 x) (zerB_len 32) (b32_len _))
  clear hl hm hx ha hb hs hal hbl hfx
  have hz := zN
  have hzC := zC
  go_enter Tryd.func82, Tryd.ntmps82
  go_upto_region 1 with fail
  generalize hW1 : World.alloc _ _ = W1
  obtain ⟨N, hN⟩ : ∃ n, w.heap.size = n := ⟨_, rfl⟩
  have HR0 := Lib.hid (show BT W1 N 102 l by subst hW1; rw [← hN]; exact (alloc3_at w _ _ _).1)
  have HR1 := Lib.hid (show BT W1 (N + 1) 102 m by subst hW1; rw [← hN]; exact (alloc3_at w _ _ _).2.1)
  have HRZ := Lib.hid (show BT W1 (N + 1 + 1) 102 (zerB 32) by subst hW1; rw [← hN]; exact (alloc3_at w _ _ _).2.2)
  have HB := Lib.hid (show Below N w W1 by subst hW1; rw [← hN]; exact Below.alloc3 w _ _ _)
  have HN := Lib.hid hN
  rw [hN]
  clear hW1 hN
  refine wp_region_upA 11 9 10 [0, 1, 2, 3, 4, 5, 6, 7, 8, 9] _ (.cells (nums .u64 (zer 4)) 135) (by kernel_rfl) (by kernel_rfl) (fun _ _ dst _ _ h => by cases dst <;> exact h) rfl (fun a w K hK => wpOp_of_run rfl rfl (run_allocC a _ rfl w) hK) rfl ?_
  simp only [List.take_succ_cons, List.take_zero, List.drop_succ_cons, List.drop_zero, List.eraseIdx_cons_succ, List.eraseIdx_cons_zero]
  refine upW_val (by rfl) (by rfl) (by rfl) (fun K hK => quiet_load_row _ _ rfl N rfl 102 _ (0, 0) _ HR0.out Tryd.underlying102 rfl HSL.out (hK _ ?_))
  simp only [Act.put, List.setIfInBounds_toArray, List.set]
  refine upW_call (by rfl) (by rfl) (.agg (nums .u64 (w4 (le l)))) _ rfl (by simp) (fun p => ?_) ?_
  · go_big_quiet_op
    exact ⟨_, fun q => Calls.ext_of (HOL.out q.x), rfl⟩
  simp only [Act.put, List.setIfInBounds_toArray, List.set]
  refine upW_call (by rfl) (by rfl) (.agg (nums .u64 (w4 a))) _ rfl (by simp) (fun p => ?_) ?_
  · go_big_quiet_op
    exact ⟨_, fun q => Calls.ext_of (HRL.out q.x), rfl⟩
  simp only [Act.put, List.setIfInBounds_toArray, List.set]
  refine upW_val (by rfl) (by rfl) (by rfl) (fun K hK => quiet_load_row _ _ rfl (N + 1) rfl 102 _ (0, 0) _ HR1.out Tryd.underlying102 rfl HSM.out (hK _ ?_))
  simp only [Act.put, List.setIfInBounds_toArray, List.set]
  refine upW_call (by rfl) (by rfl) (.agg (nums .u64 (w4 (le m)))) _ rfl (by simp) (fun p => ?_) ?_
  · go_big_quiet_op
    exact ⟨_, fun q => Calls.ext_of (HOM.out q.x), rfl⟩
  simp only [Act.put, List.setIfInBounds_toArray, List.set]
  refine upW_call (by rfl) (by rfl) (.agg (nums .u64 (w4 b))) _ rfl (by simp) (fun p => ?_) ?_
  · go_big_quiet_op
    exact ⟨_, fun q => Calls.ext_of (HRM.out q.x), rfl⟩
  simp only [Act.put, List.setIfInBounds_toArray, List.set]
  refine upW_call (by rfl) (by rfl) (.tuple #[.agg (nums .u64 (w4 s)), .int .u64 0]) _ rfl (by simp) (fun p => ?_) ?_
  · go_big_quiet_op
    exact ⟨_, fun q => Calls.ext_of (HPL.out q.x), rfl⟩
  simp only [Act.put, List.setIfInBounds_toArray, List.set]
  refine upW_val (by rfl) (by rfl) (by rfl) ?_
  intro K hK
  go_big_quiet_op
  refine hK _ ?_
  refine upW_late (by rfl) (.agg (nums .u64 (w4 s))) (fun _ => rfl) ?_
  simp only [Act.put, List.setIfInBounds_toArray, List.set]
  refine upW_late (by rfl) (.int .u64 0) (fun _ => rfl) ?_
  simp only [Act.put, List.setIfInBounds_toArray, List.set]
  refine upW_nil (fun M wm hM hbm hom => ?_)
  simp only [List.setIfInBounds_toArray]
  have HOB := Lib.hid hom
  have hMZ := Nat.lt_of_lt_of_le HRZ.out.lt hM
  clear hom
  have HR0x901 := Lib.hid (HR0.out.ext hbm)
  have HR1x901 := Lib.hid (HR1.out.ext hbm)
  have HRZx901 := Lib.hid (HRZ.out.ext hbm)
  have HBx901 := Lib.hid (HB.out.trans (hbm.mono (show N ≤ _ by have := HRZ.out.lt; omega)))
  clear hbm HR0 HR1 HRZ HB
  have HR0 := HR0x901
  have HR1 := HR1x901
  have HRZ := HRZx901
  have HB := HBx901
  clear HR0x901 HR1x901 HRZx901 HBx901
  go_wp2_with (refine wpList_store_row rfl 135 _ _ rfl M (nums .u64 (w4 s)) rfl rfl 135 _ HOB.out HSS.out ?hold (nums_one _ _) (Stop.out ?_))
  case hold => rw [size_nums, size_nums, zer_len]; rfl
  generalize hWS : World.setRow _ _ _ = ws
  have HD := Lib.hid (show RW ws M .u64 135 (w4 s) by subst hWS; exact setRow_heap _ _ _ _ _ _ HOB.out)
  have HZ := Lib.hid (show BT ws (N + 1 + 1) 102 (zerB 32) by subst hWS; exact HRZ.out.other (setRow_other _ _ _ _ (by omega)))
  have HE := Lib.hid (show Below N w ws by subst hWS; exact Below.setRow HB.out (by omega) _)
  clear hWS HR0 HR1 HRZ HB HOB
  have HRZ := HZ
  have HB := HE
  clear HZ HE
  refine ⟨?_⟩
  go_wp2_with (refine wpList_load_row rfl 135 _ rfl M rfl 135 (nums .u64 (w4 s)) (0, 0) _ HD.out Tryd.underlying135 rfl HSS.out ?_)
  refine (HRS.out _).mono ?_
  rintro e wu15 ⟨rfl, hb15⟩
  have HRZx15 := Lib.hid (HRZ.out.ext hb15)
  have HBx15 := Lib.hid (HB.out.trans (hb15.mono (show N ≤ _ by have := HRZ.out.lt; omega)))
  clear hb15 HRZ HB
  have HRZ := HRZx15
  have HB := HBx15
  clear HRZx15 HBx15
  go_wp2_with fail
  refine (HNM.out _).mono ?_
  rintro e wu16 ⟨rfl, hb16⟩
  have HRZx16 := Lib.hid (HRZ.out.ext hb16)
  have HBx16 := Lib.hid (HB.out.trans (hb16.mono (show N ≤ _ by have := HRZ.out.lt; omega)))
  clear hb16 HRZ HB
  have HRZ := HRZx16
  have HB := HBx16
  clear HRZx16 HBx16
  go_wp2_with (refine wpList_store_row rfl 102 _ _ rfl (N + 1 + 1) ((byteVals (b32 x)).toArray) rfl rfl 102 _ HRZ.out HSX.out HOX.out (byteVals_one _) ?_)
  refine bodyPost_ret (results_cell_row (by rfl) _ _ (N + 1 + 1) 102 ((byteVals (b32 x)).toArray) (0, 0) _ (by rfl) (setRow_heap _ _ _ _ _ _ HRZ.out) Tryd.underlying102 rfl HSX.out) rfl ⟨rfl, ?_⟩
  rw [HN.out]
  exact Below.setRow HB.out (by omega) _
set_option maxRecDepth 100000 in
set_option maxHeartbeats 1000000 in
theorem Mul_any (l m : List UInt8) (w : World) (hl : l.length = 32) (hm : m.length = 32) :
    Calls Tryd.prog 77 #[.agg (byteVals l).toArray, .agg (byteVals m).toArray] w fun e w' => e = .returned (.agg (byteVals (b32 (fMul (le l) (le m)))).toArray) ∧ Below w.heap.size w w' := by
  have HSL := Lib.hid (sN l hl)
  have HSM := Lib.hid (sN m hm)
  have HOL := Lib.hid (fun w => ofC_any l w hl)
  have HOM := Lib.hid (fun w => ofC_any m w hm)
  have HTM := Lib.hid (fun b w h => timesC_any (le l) (le m) b w (le_32 l hl) (le_32 m hm) h)
  have hml := mu_lt (le l) (le m)
  have hfx : fMul (le l) (le m) = mu (le l) (le m) % 57896044618658097711785492504343953926634992332820282019728792003956564819949 := rfl
  obtain ⟨s, hs⟩ : ∃ x, mu (le l) (le m) = x := ⟨_, rfl⟩
  rw [hs] at HTM hml hfx
  have HRS := Lib.hid (fun w => restC_any s w hml)
  rw [hfx]
  obtain ⟨x, hx⟩ : ∃ x, s % 57896044618658097711785492504343953926634992332820282019728792003956564819949 = x := ⟨_, rfl⟩
  rw [hx] at HRS
  rw [hx]
  have HNM := Lib.hid (fun w => numC_any x w)
  have HSS := Lib.hid (sC s)
  have HSQ := Lib.hid (sC (le l))
  have HSX := Lib.hid (sN (b32 x) (b32_len _))
  have HOX := Lib.hid (oN (zerB 32) (b32 x) (zerB_len 32) (b32_len _))
  clear hl hm hx hs hml hfx
  have hz := zN
  have hzC := zC
  go_enter Tryd.func77, Tryd.ntmps77
  go_upto_region 1 with fail
  generalize hW1 : World.alloc _ _ = W1
  obtain ⟨N, hN⟩ : ∃ n, w.heap.size = n := ⟨_, rfl⟩
  have HR0 := Lib.hid (show BT W1 N 102 l by subst hW1; rw [← hN]; exact (alloc3_at w _ _ _).1)
  have HR1 := Lib.hid (show BT W1 (N + 1) 102 m by subst hW1; rw [← hN]; exact (alloc3_at w _ _ _).2.1)
  have HRZ := Lib.hid (show BT W1 (N + 1 + 1) 102 (zerB 32) by subst hW1; rw [← hN]; exact (alloc3_at w _ _ _).2.2)
  have HB := Lib.hid (show Below N w W1 by subst hW1; rw [← hN]; exact Below.alloc3 w _ _ _)
  have HN := Lib.hid hN
  rw [hN]
  clear hW1 hN
  go_wp2_with (refine wpList_load_row rfl 102 _ rfl N rfl 102 ((byteVals l).toArray) (0, 0) _ HR0.out Tryd.underlying102 rfl HSL.out ?_)
  refine (HOL.out _).mono ?_
  rintro e wu17 ⟨rfl, hb17⟩
  have HR0x17 := Lib.hid (HR0.out.ext hb17)
  have HR1x17 := Lib.hid (HR1.out.ext hb17)
  have HRZx17 := Lib.hid (HRZ.out.ext hb17)
  have HBx17 := Lib.hid (HB.out.trans (hb17.mono (show N ≤ _ by have := HRZ.out.lt; omega)))
  clear hb17 HR0 HR1 HRZ HB
  have HR0 := HR0x17
  have HR1 := HR1x17
  have HRZ := HRZx17
  have HB := HBx17
  clear HR0x17 HR1x17 HRZx17 HBx17
  go_wp2_with (refine wpList_store_row rfl 135 _ _ rfl wu17.heap.size (nums .u64 (w4 (le l))) rfl rfl 135 _ (Go.heap_alloc_new _ _) HSQ.out ?hold (nums_one _ _) (Stop.out ?_))
  case hold => rw [size_nums, size_nums, zer_len, w4_len]
  generalize hWS : World.setRow _ _ _ = ws
  obtain ⟨M, hM⟩ : ∃ n, wu17.heap.size = n := ⟨_, rfl⟩
  have hMN : N + 1 + 1 < M := by rw [← hM]; exact HRZ.out.lt
  have HD := Lib.hid (show RW ws M .u64 135 (w4 (le l)) by subst hWS; rw [← hM]; exact setRow_heap _ _ _ _ _ _ (Go.heap_alloc_new _ _))
  have HA1 := Lib.hid (show BT ws (N + 1) 102 m by subst hWS; exact HR1.out.other ((setRow_other _ _ _ _ (by omega)).trans (Go.heap_alloc_old _ _ HR1.out.lt)))
  have HAZ := Lib.hid (show BT ws (N + 1 + 1) 102 (zerB 32) by subst hWS; exact HRZ.out.other ((setRow_other _ _ _ _ (by omega)).trans (Go.heap_alloc_old _ _ HRZ.out.lt)))
  have HE := Lib.hid (show Below N w ws by subst hWS; exact Below.setRow (HB.out.alloc (by omega) _) (by omega) _)
  rw [hM]
  clear hWS hM HR0 HR1 HRZ HB
  have HRZ := HAZ
  have HB := HE
  clear HAZ HE
  refine ⟨?_⟩
  go_wp2_with (refine wpList_load_row rfl 102 _ rfl (N + 1) rfl 102 ((byteVals m).toArray) (0, 0) _ HA1.out Tryd.underlying102 rfl HSM.out ?_)
  refine (HOM.out _).mono ?_
  rintro e wu18 ⟨rfl, hb18⟩
  have HDx18 := Lib.hid (HD.out.ext hb18)
  have HRZx18 := Lib.hid (HRZ.out.ext hb18)
  have HBx18 := Lib.hid (HB.out.trans (hb18.mono (show N ≤ _ by have := HRZ.out.lt; omega)))
  clear hb18 HD HRZ HB
  have HD := HDx18
  have HRZ := HRZx18
  have HB := HBx18
  clear HDx18 HRZx18 HBx18
  go_wp2_with fail
  refine (HTM.out M _ HD.out).mono ?_
  rintro e wt ⟨rfl, hq, hqx⟩
  have HQ := Lib.hid hq
  have HAZ := Lib.hid (HRZ.out.belowX hqx (by omega))
  have HE := Lib.hid (below_x HB.out hqx (by omega) (by have := HRZ.out.lt; omega))
  clear hq hqx HRZ HB HD
  have HRZ := HAZ
  have HB := HE
  clear HAZ HE
  go_wp2_with (refine wpList_load_row rfl 135 _ rfl M rfl 135 (nums .u64 (w4 s)) (0, 0) _ HQ.out Tryd.underlying135 rfl HSS.out ?_)
  refine (HRS.out _).mono ?_
  rintro e wu19 ⟨rfl, hb19⟩
  have HRZx19 := Lib.hid (HRZ.out.ext hb19)
  have HBx19 := Lib.hid (HB.out.trans (hb19.mono (show N ≤ _ by have := HRZ.out.lt; omega)))
  clear hb19 HRZ HB
  have HRZ := HRZx19
  have HB := HBx19
  clear HRZx19 HBx19
  go_wp2_with fail
  refine (HNM.out _).mono ?_
  rintro e wu20 ⟨rfl, hb20⟩
  have HRZx20 := Lib.hid (HRZ.out.ext hb20)
  have HBx20 := Lib.hid (HB.out.trans (hb20.mono (show N ≤ _ by have := HRZ.out.lt; omega)))
  clear hb20 HRZ HB
  have HRZ := HRZx20
  have HB := HBx20
  clear HRZx20 HBx20
  go_wp2_with (refine wpList_store_row rfl 102 _ _ rfl (N + 1 + 1) ((byteVals (b32 x)).toArray) rfl rfl 102 _ HRZ.out HSX.out HOX.out (byteVals_one _) ?_)
  refine bodyPost_ret (results_cell_row (by rfl) _ _ (N + 1 + 1) 102 ((byteVals (b32 x)).toArray) (0, 0) _ (by rfl) (setRow_heap _ _ _ _ _ _ HRZ.out) Tryd.underlying102 rfl HSX.out) rfl ⟨rfl, ?_⟩
  rw [HN.out]
  exact Below.setRow HB.out (by omega) _
end Go.Proofs.YtlpchgoaoglhcaaDoor
