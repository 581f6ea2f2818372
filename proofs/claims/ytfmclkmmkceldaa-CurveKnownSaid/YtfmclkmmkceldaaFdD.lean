/-
  What is below the prime: rest.
  Conditions: none.
-/
import Derived.Test.YtfmclkmmkceldaaFdC
import Derived.Test.YtfmclkmmkceldaaFdF
import Derived.Test.YtfmclkmmkceldaaUpT
namespace Go.Proofs.Ytfmclkmmkceldaa
open Go.RowKit

theorem RW.ext {w : World} {b : Nat} {k : IntKind} {t : TypeId} {l : List Nat} (h : RW w b k t l) {w' : World} (p : Below w.heap.size w w') : RW w' b k t l := h.other (p.block b h.lt)
/-- Making a number of four words. -/
theorem run_allocC (a : Act) (o : Oper) (ho : o.op = .alloc 70) (w : World) : (execOp a.eval o).run Try.prog w = .ok (.value (.pointer (some ⟨w.heap.size, 0, none⟩))) (w.alloc (.cells (nums .u64 (zer 4)) 70)) := by
  have hz := zC
  unfold execOp
  simp only [ho]
  simp [go_sem, Instr.alloc, hz, Value.cells]
set_option maxRecDepth 100000 in
set_option maxHeartbeats 1000000 in
theorem restC_any (n : Nat) (w : World) (hn : n < 115792089237316195423570985008687907853269984665640564039457584007913129639936) :
    Calls Try.prog 61 #[.agg (nums .u64 (w4 n))] w fun e w' => e = .returned (.agg (nums .u64 (w4 (n % 57896044618658097711785492504343953926634992332820282019728792003956564819949)))) ∧ Below w.heap.size w w' := by
  have HNN := Lib.hid hn
  have hz := zC
  clear hn
  go_enter Try.func61, Try.ntmps61
  go_wp2_with fail
  generalize hW1 : World.alloc _ _ = W1
  obtain ⟨N, hN⟩ : ∃ n, w.heap.size = n := ⟨_, rfl⟩
  have HR1 := Lib.hid (show RW W1 N .u64 70 (w4 n) by subst hW1; rw [← hN]; exact (alloc2_at w _ _).1)
  have HR2 := Lib.hid (show RW W1 (N + 1) .u64 70 (zer 4) by subst hW1; rw [← hN]; exact (alloc2_at w _ _).2)
  have HB1 := Lib.hid (show Below N w W1 by subst hW1; rw [← hN]; exact ((Below.refl _ w).alloc (Nat.le_refl _) _).alloc (by simp) _)
  have HN := Lib.hid hN
  rw [hN]
  clear hW1 hN
  go_loopw [5] (fun iv wr => ∃ (k m : Nat), iv = .int .i64 k ∧ k ≤ 2 ∧ Hid (m + k * 57896044618658097711785492504343953926634992332820282019728792003956564819949 = n) ∧ RW wr N .u64 70 (w4 m) ∧ RW wr (N + 1) .u64 70 (zer 4) ∧ Below N w wr) (fun i _ => 2 - (intOf i).toNat)
  case atStart => exact ⟨0, n, rfl, Nat.zero_le _, Lib.hid (by omega), HR1.out, HR2.out, HB1.out⟩
  case round =>
    obtain ⟨k, m, rfl, hk, HM, hr1, hr2, hbel⟩ := hrel
    have HA1 := Lib.hid hr1
    have HA2 := Lib.hid hr2
    have HBE := Lib.hid hbel
    have HS := Lib.hid (sC m)
    clear hr1 hr2 hbel HR1 HR2 HB1
    by_cases hlt : k < 2
    · have hlt' : (k : Int) < 2 := by omega
      have HMN := Lib.hid (show m < 115792089237316195423570985008687907853269984665640564039457584007913129639936 by have := HM.out; have := HNN.out; omega)
      by_cases hlp : m < 57896044618658097711785492504343953926634992332820282019728792003956564819949
      · have HRES := Lib.hid (show n % 57896044618658097711785492504343953926634992332820282019728792003956564819949 = m by rw [← HM.out, Nat.add_mul_mod_self_right]; exact Nat.mod_eq_of_lt hlp)
        obtain ⟨r, hr⟩ : ∃ r, m + 115792089237316195423570985008687907853269984665640564039457584007913129639936 - 57896044618658097711785492504343953926634992332820282019728792003956564819949 = r := ⟨_, rfl⟩
        have HQ := Lib.hid (fun w => takeC_any m 57896044618658097711785492504343953926634992332820282019728792003956564819949 r 1 w HMN.out (by decide) (by omega) (by omega) (by decide))
        clear hr hlp
        have HP := Lib.hid (fun w => primeC_any w)
        have HSR := Lib.hid (sC r)
        have HNW := Lib.hid (show N + 1 < wr.heap.size from HA2.out.lt)
        go_wp2_with fail
        refine wp_region_upA 7 5 6 [0, 1, 2, 3, 4, 5] _ (.cells (nums .u64 (zer 4)) 70) (by kernel_rfl) (by kernel_rfl) (fun _ _ dst _ _ h => by cases dst <;> exact h) rfl (fun a w K hK => wpOp_of_run rfl rfl (run_allocC a _ rfl w) hK) rfl ?_
        simp only [List.take_succ_cons, List.take_zero, List.drop_succ_cons, List.drop_zero, List.eraseIdx_cons_succ, List.eraseIdx_cons_zero]
        refine upW_val (by rfl) (by rfl) (by rfl) (fun K hK => quiet_load_row _ _ rfl N rfl 70 _ (0, 0) _ HA1.out Try.underlying70 rfl HS.out (hK _ ?_))
        simp only [Act.put, List.setIfInBounds_toArray, List.set]
        refine upW_call (by rfl) (by rfl) (.agg (nums .u64 (w4 57896044618658097711785492504343953926634992332820282019728792003956564819949))) _ rfl (by simp) (fun p => ?_) ?_
        · go_big_quiet_op
          exact ⟨_, fun q => Calls.ext_of (HP.out q.x), rfl⟩
        simp only [Act.put, List.setIfInBounds_toArray, List.set]
        refine upW_call (by rfl) (by rfl) (.tuple #[.agg (nums .u64 (w4 r)), .int .u64 1]) _ rfl (by simp) (fun p => ?_) ?_
        · go_big_quiet_op
          exact ⟨_, fun q => Calls.ext_of (HQ.out q.x), rfl⟩
        simp only [Act.put, List.setIfInBounds_toArray, List.set]
        refine upW_val (by rfl) (by rfl) (by rfl) ?_
        intro K hK
        go_big_quiet_op
        refine hK _ ?_
        refine upW_late (by rfl) (.agg (nums .u64 (w4 r))) (fun _ => rfl) ?_
        simp only [Act.put, List.setIfInBounds_toArray, List.set]
        refine upW_late (by rfl) (.int .u64 1) (fun _ => rfl) ?_
        simp only [Act.put, List.setIfInBounds_toArray, List.set]
        refine upW_nil (fun M wm hM hbm hom => ?_)
        simp only [List.setIfInBounds_toArray]
        have HOM := Lib.hid hom
        have HBM := Lib.hid hbm
        have hM1 : N + 1 < M := Nat.lt_of_lt_of_le HNW.out hM
        have HN1 := Lib.hid (HA1.out.ext hbm)
        have HN2 := Lib.hid (HA2.out.ext hbm)
        clear hom hbm
        go_wp2_with (refine wpList_store_row rfl 70 _ _ rfl M (nums .u64 (w4 r)) rfl rfl 70 _ HOM.out HSR.out ?hold (nums_one _ _) (Stop.out ?_))
        case hold => rw [size_nums, size_nums, zer_len]; rfl
        generalize hWS : World.setRow _ _ _ = ws
        have H1 := Lib.hid (show RW ws N .u64 70 (w4 m) by subst hWS; exact HN1.out.other (setRow_other _ _ _ _ (by omega)))
        have H2 := Lib.hid (show RW ws (N + 1) .u64 70 (zer 4) by subst hWS; exact HN2.out.other (setRow_other _ _ _ _ (by omega)))
        have H3 := Lib.hid (show RW ws M .u64 70 (w4 r) by subst hWS; exact setRow_heap _ _ _ _ _ _ HOM.out)
        have HB3 := Lib.hid (show Below N w ws by subst hWS; exact Below.setRow (HBE.out.trans (HBM.out.mono (by have := HNW.out; omega))) (by omega) _)
        clear hWS HN1 HN2 HOM HBM HA1 HA2 HBE
        refine ⟨?_⟩
        have HO := Lib.hid (show (nums .u64 (zer 4)).size = (nums .u64 (w4 m)).size by rw [size_nums, size_nums, zer_len, w4_len])
        go_wp2_with (first | (refine wpList_load_row rfl 70 _ rfl N rfl 70 _ (0, 0) _ H1.out Try.underlying70 rfl HS.out ?_) | (refine wpList_store_row rfl 70 _ _ rfl (N + 1) (nums .u64 (w4 m)) rfl rfl 70 _ H2.out HS.out HO.out (nums_one _ _) ?_))
        refine bodyPost_ret (results_cell_row (by rfl) _ _ (N + 1) 70 (nums .u64 (w4 m)) (0, 0) _ (by rfl) (setRow_heap _ _ _ _ _ _ H2.out) Try.underlying70 rfl HS.out) rfl ⟨by rw [HRES.out], ?_⟩
        rw [HN.out]
        exact Below.setRow HB3.out (by omega) _
      · have HM2 := Lib.hid (show (m - 57896044618658097711785492504343953926634992332820282019728792003956564819949) + (k + 1) * 57896044618658097711785492504343953926634992332820282019728792003956564819949 = n by have := HM.out; omega)
        obtain ⟨r, hr⟩ : ∃ r, m - 57896044618658097711785492504343953926634992332820282019728792003956564819949 = r := ⟨_, rfl⟩
        rw [hr] at HM2
        have HQ := Lib.hid (fun w => takeC_any m 57896044618658097711785492504343953926634992332820282019728792003956564819949 r 0 w HMN.out (by decide) (by have := HMN.out; omega) (by omega) (by decide))
        clear hr hlp
        have HP := Lib.hid (fun w => primeC_any w)
        have HSR := Lib.hid (sC r)
        have HNW := Lib.hid (show N + 1 < wr.heap.size from HA2.out.lt)
        go_wp2_with fail
        refine wp_region_upA 7 5 6 [0, 1, 2, 3, 4, 5] _ (.cells (nums .u64 (zer 4)) 70) (by kernel_rfl) (by kernel_rfl) (fun _ _ dst _ _ h => by cases dst <;> exact h) rfl (fun a w K hK => wpOp_of_run rfl rfl (run_allocC a _ rfl w) hK) rfl ?_
        simp only [List.take_succ_cons, List.take_zero, List.drop_succ_cons, List.drop_zero, List.eraseIdx_cons_succ, List.eraseIdx_cons_zero]
        refine upW_val (by rfl) (by rfl) (by rfl) (fun K hK => quiet_load_row _ _ rfl N rfl 70 _ (0, 0) _ HA1.out Try.underlying70 rfl HS.out (hK _ ?_))
        simp only [Act.put, List.setIfInBounds_toArray, List.set]
        refine upW_call (by rfl) (by rfl) (.agg (nums .u64 (w4 57896044618658097711785492504343953926634992332820282019728792003956564819949))) _ rfl (by simp) (fun p => ?_) ?_
        · go_big_quiet_op
          exact ⟨_, fun q => Calls.ext_of (HP.out q.x), rfl⟩
        simp only [Act.put, List.setIfInBounds_toArray, List.set]
        refine upW_call (by rfl) (by rfl) (.tuple #[.agg (nums .u64 (w4 r)), .int .u64 0]) _ rfl (by simp) (fun p => ?_) ?_
        · go_big_quiet_op
          exact ⟨_, fun q => Calls.ext_of (HQ.out q.x), rfl⟩
        simp only [Act.put, List.setIfInBounds_toArray, List.set]
        refine upW_val (by rfl) (by rfl) (by rfl) ?_
        intro K hK
        go_big_quiet_op
        refine hK _ ?_
        refine upW_late (by rfl) (.agg (nums .u64 (w4 r))) (fun _ => rfl) ?_
        simp only [Act.put, List.setIfInBounds_toArray, List.set]
        refine upW_late (by rfl) (.int .u64 0) (fun _ => rfl) ?_
        simp only [Act.put, List.setIfInBounds_toArray, List.set]
        refine upW_nil (fun M wm hM hbm hom => ?_)
        simp only [List.setIfInBounds_toArray]
        have HOM := Lib.hid hom
        have HBM := Lib.hid hbm
        have hM1 : N + 1 < M := Nat.lt_of_lt_of_le HNW.out hM
        have HN1 := Lib.hid (HA1.out.ext hbm)
        have HN2 := Lib.hid (HA2.out.ext hbm)
        clear hom hbm
        go_wp2_with (refine wpList_store_row rfl 70 _ _ rfl M (nums .u64 (w4 r)) rfl rfl 70 _ HOM.out HSR.out ?hold (nums_one _ _) (Stop.out ?_))
        case hold => rw [size_nums, size_nums, zer_len]; rfl
        generalize hWS : World.setRow _ _ _ = ws
        have H1 := Lib.hid (show RW ws N .u64 70 (w4 m) by subst hWS; exact HN1.out.other (setRow_other _ _ _ _ (by omega)))
        have H2 := Lib.hid (show RW ws (N + 1) .u64 70 (zer 4) by subst hWS; exact HN2.out.other (setRow_other _ _ _ _ (by omega)))
        have H3 := Lib.hid (show RW ws M .u64 70 (w4 r) by subst hWS; exact setRow_heap _ _ _ _ _ _ HOM.out)
        have HB3 := Lib.hid (show Below N w ws by subst hWS; exact Below.setRow (HBE.out.trans (HBM.out.mono (by have := HNW.out; omega))) (by omega) _)
        clear hWS HN1 HN2 HOM HBM HA1 HA2 HBE
        refine ⟨?_⟩
        have HO := Lib.hid (show (nums .u64 (w4 m)).size = (nums .u64 (w4 r)).size by rw [size_nums, size_nums, w4_len, w4_len])
        go_wp2_with (first | (refine wpList_load_row rfl 70 _ rfl M rfl 70 _ (0, 0) _ H3.out Try.underlying70 rfl HSR.out ?_) | (refine wpList_store_row rfl 70 _ _ rfl N (nums .u64 (w4 r)) rfl rfl 70 _ H1.out HSR.out HO.out (nums_one _ _) ?_))
        go_roundw
        case rel => exact ⟨k + 1, r, rfl, hlt, HM2, setRow_heap _ _ _ _ _ _ H1.out, H2.out.other (setRow_other _ _ _ _ (by omega)), Below.setRow HB3.out (Nat.le_refl _) _⟩
        case measure => simp [intOf]; omega
    · have hlt' : ¬ (k : Int) < 2 := by omega
      have HRES := Lib.hid (show n % 57896044618658097711785492504343953926634992332820282019728792003956564819949 = m by rw [← HM.out, Nat.add_mul_mod_self_right]; exact Nat.mod_eq_of_lt (by have := HM.out; have := HNN.out; omega))
      have HO := Lib.hid (show (nums .u64 (zer 4)).size = (nums .u64 (w4 m)).size by rw [size_nums, size_nums, zer_len, w4_len])
      go_wp2_with (first | (refine wpList_load_row rfl 70 _ rfl N rfl 70 _ (0, 0) _ HA1.out Try.underlying70 rfl HS.out ?_) | (refine wpList_store_row rfl 70 _ _ rfl (N + 1) (nums .u64 (w4 m)) rfl rfl 70 _ HA2.out HS.out HO.out (nums_one _ _) ?_))
      refine bodyPost_ret (results_cell_row (by rfl) _ _ (N + 1) 70 (nums .u64 (w4 m)) (0, 0) _ (by rfl) (setRow_heap _ _ _ _ _ _ HA2.out) Try.underlying70 rfl HS.out) rfl ⟨by rw [HRES.out], ?_⟩
      rw [HN.out]
      exact Below.setRow HBE.out (by omega) _
end Go.Proofs.Ytfmclkmmkceldaa
