/-
  What is below the prime: rest.
  Words of package field: minus, less, num.
  Products and what becomes of them, word by word (plain).
  Conditions: none.
-/
import Derived.Test.YtlpchgoaoglhcaaDoorMb01
import Derived.Test.YtlpchgoaoglhcaaDoorUpT
import Derived.Test.YtlpchgoaoglhcaaDoorMb00
namespace Go.Proofs.YtlpchgoaoglhcaaDoor
open Go.RowKit
theorem RW.ext {w : World} {b : Nat} {k : IntKind} {t : TypeId} {l : List Nat} (h : RW w b k t l) {w' : World} (p : Below w.heap.size w w') : RW w' b k t l := h.other (p.block b h.lt)
/-- Making a number of four words. -/
theorem run_allocC (a : Act) (o : Oper) (ho : o.op = .alloc 135) (w : World) : (execOp a.eval o).run Tryd.prog w = .ok (.value (.pointer (some ⟨w.heap.size, 0, none⟩))) (w.alloc (.cells (nums .u64 (zer 4)) 135)) := by
  have hz := zC
  unfold execOp
  simp only [ho]
  simp [go_sem, Instr.alloc, hz, Value.cells]
set_option maxRecDepth 100000 in
set_option maxHeartbeats 1000000 in
theorem restC_any (n : Nat) (w : World) (hn : n < 115792089237316195423570985008687907853269984665640564039457584007913129639936) :
    Calls Tryd.prog 93 #[.agg (nums .u64 (w4 n))] w fun e w' => e = .returned (.agg (nums .u64 (w4 (n % 57896044618658097711785492504343953926634992332820282019728792003956564819949)))) ∧ Below w.heap.size w w' := by
  have HNN := Lib.hid hn
  have hz := zC
  clear hn
  go_enter Tryd.func93, Tryd.ntmps93
  go_wp2_with fail
  generalize hW1 : World.alloc _ _ = W1
  obtain ⟨N, hN⟩ : ∃ n, w.heap.size = n := ⟨_, rfl⟩
  have HR1 := Lib.hid (show RW W1 N .u64 135 (w4 n) by subst hW1; rw [← hN]; exact (alloc2_at w _ _).1)
  have HR2 := Lib.hid (show RW W1 (N + 1) .u64 135 (zer 4) by subst hW1; rw [← hN]; exact (alloc2_at w _ _).2)
  have HB1 := Lib.hid (show Below N w W1 by subst hW1; rw [← hN]; exact ((Below.refl _ w).alloc (Nat.le_refl _) _).alloc (by simp) _)
  have HN := Lib.hid hN
  rw [hN]
  clear hW1 hN
  go_loopw [5] (fun iv wr => ∃ (k m : Nat), iv = .int .i64 k ∧ k ≤ 2 ∧ Hid (m + k * 57896044618658097711785492504343953926634992332820282019728792003956564819949 = n) ∧ RW wr N .u64 135 (w4 m) ∧ RW wr (N + 1) .u64 135 (zer 4) ∧ Below N w wr) (fun i _ => 2 - (intOf i).toNat)
  case atStart => exact ⟨0, n, rfl, Nat.zero_le _, Lib.hid (by omega), HR1.out, HR2.out, HB1.out⟩
  case round =>
    obtain ⟨k, m, rfl, hk, HM, hr1, hr2, hbel⟩ := hrel
    have HA1 := Lib.hid hr1
    have HA2 := Lib.hid hr2
    have HBE := Lib.hid hbel
    have HS := Lib.hid (sC m)
    clear hr1 hr2 hbel HR1 HR2 HB1
    by_cases hlt : k < 2
    · have hlt' : (k : Int) < 2 := by omega
      have HMN := Lib.hid (show m < 115792089237316195423570985008687907853269984665640564039457584007913129639936 by have := HM.out; have := HNN.out; omega)
      by_cases hlp : m < 57896044618658097711785492504343953926634992332820282019728792003956564819949
      · have HRES := Lib.hid (show n % 57896044618658097711785492504343953926634992332820282019728792003956564819949 = m by rw [← HM.out, Nat.add_mul_mod_self_right]; exact Nat.mod_eq_of_lt hlp)
        obtain ⟨r, hr⟩ : ∃ r, m + 115792089237316195423570985008687907853269984665640564039457584007913129639936 - 57896044618658097711785492504343953926634992332820282019728792003956564819949 = r := ⟨_, rfl⟩
        have HQ := Lib.hid (fun w => takeC_any m 57896044618658097711785492504343953926634992332820282019728792003956564819949 r 1 w HMN.out (by decide) (by omega) (by omega) (by decide))
        clear hr hlp
        have HP := Lib.hid (fun w => primeC_any w)
        have HSR := Lib.hid (sC r)
        have HNW := Lib.hid (show N + 1 < wr.heap.size from HA2.out.lt)
        go_wp2_with fail
        refine wp_region_upA 7 5 6 [0, 1, 2, 3, 4, 5] _ (.cells (nums .u64 (zer 4)) 135) (by kernel_rfl) (by kernel_rfl) (fun _ _ dst _ _ h => by cases dst <;> exact h) rfl (fun a w K hK => wpOp_of_run rfl rfl (run_allocC a _ rfl w) hK) rfl ?_
        simp only [List.take_succ_cons, List.take_zero, List.drop_succ_cons, List.drop_zero, List.eraseIdx_cons_succ, List.eraseIdx_cons_zero]
        refine upW_val (by rfl) (by rfl) (by rfl) (fun K hK => quiet_load_row _ _ rfl N rfl 135 _ (0, 0) _ HA1.out Tryd.underlying135 rfl HS.out (hK _ ?_))
        simp only [Act.put, List.setIfInBounds_toArray, List.set]
        refine upW_call (by rfl) (by rfl) (.agg (nums .u64 (w4 57896044618658097711785492504343953926634992332820282019728792003956564819949))) _ rfl (by simp) (fun p => ?_) ?_
        · go_big_quiet_op
          exact ⟨_, fun q => Calls.ext_of (HP.out q.x), rfl⟩
        simp only [Act.put, List.setIfInBounds_toArray, List.set]
        refine upW_call (by rfl) (by rfl) (.tuple #[.agg (nums .u64 (w4 r)), .int .u64 1]) _ rfl (by simp) (fun p => ?_) ?_
        · go_big_quiet_op
          exact ⟨_, fun q => Calls.ext_of (HQ.out q.x), rfl⟩
        simp only [Act.put, List.setIfInBounds_toArray, List.set]
        refine upW_val (by rfl) (by rfl) (by rfl) ?_
        intro K hK
        go_big_quiet_op
        refine hK _ ?_
        refine upW_late (by rfl) (.agg (nums .u64 (w4 r))) (fun _ => rfl) ?_
        simp only [Act.put, List.setIfInBounds_toArray, List.set]
        refine upW_late (by rfl) (.int .u64 1) (fun _ => rfl) ?_
        simp only [Act.put, List.setIfInBounds_toArray, List.set]
        refine upW_nil (fun M wm hM hbm hom => ?_)
        simp only [List.setIfInBounds_toArray]
        have HOM := Lib.hid hom
        have HBM := Lib.hid hbm
        have hM1 : N + 1 < M := Nat.lt_of_lt_of_le HNW.out hM
        have HN1 := Lib.hid (HA1.out.ext hbm)
        have HN2 := Lib.hid (HA2.out.ext hbm)
        clear hom hbm
        go_wp2_with (refine wpList_store_row rfl 135 _ _ rfl M (nums .u64 (w4 r)) rfl rfl 135 _ HOM.out HSR.out ?hold (nums_one _ _) (Stop.out ?_))
        case hold => rw [size_nums, size_nums, zer_len]; rfl
        generalize hWS : World.setRow _ _ _ = ws
        have H1 := Lib.hid (show RW ws N .u64 135 (w4 m) by subst hWS; exact HN1.out.other (setRow_other _ _ _ _ (by omega)))
        have H2 := Lib.hid (show RW ws (N + 1) .u64 135 (zer 4) by subst hWS; exact HN2.out.other (setRow_other _ _ _ _ (by omega)))
        have H3 := Lib.hid (show RW ws M .u64 135 (w4 r) by subst hWS; exact setRow_heap _ _ _ _ _ _ HOM.out)
        have HB3 := Lib.hid (show Below N w ws by subst hWS; exact Below.setRow (HBE.out.trans (HBM.out.mono (by have := HNW.out; omega))) (by omega) _)
        clear hWS HN1 HN2 HOM HBM HA1 HA2 HBE
        refine ⟨?_⟩
        have HO := Lib.hid (show (nums .u64 (zer 4)).size = (nums .u64 (w4 m)).size by rw [size_nums, size_nums, zer_len, w4_len])
        go_wp2_with (first | (refine wpList_load_row rfl 135 _ rfl N rfl 135 _ (0, 0) _ H1.out Tryd.underlying135 rfl HS.out ?_) | (refine wpList_store_row rfl 135 _ _ rfl (N + 1) (nums .u64 (w4 m)) rfl rfl 135 _ H2.out HS.out HO.out (nums_one _ _) ?_))
        refine bodyPost_ret (results_cell_row (by rfl) _ _ (N + 1) 135 (nums .u64 (w4 m)) (0, 0) _ (by rfl) (setRow_heap _ _ _ _ _ _ H2.out) Tryd.underlying135 rfl HS.out) rfl ⟨by rw [HRES.out], ?_⟩
        rw [HN.out]
        exact Below.setRow HB3.out (by omega) _
      · have HM2 := Lib.hid (show (m - 57896044618658097711785492504343953926634992332820282019728792003956564819949) + (k + 1) * 57896044618658097711785492504343953926634992332820282019728792003956564819949 = n by have := HM.out; omega)
        obtain ⟨r, hr⟩ : ∃ r, m - 57896044618658097711785492504343953926634992332820282019728792003956564819949 = r := ⟨_, rfl⟩
        rw [hr] at HM2
        have HQ := Lib.hid (fun w => takeC_any m 57896044618658097711785492504343953926634992332820282019728792003956564819949 r 0 w HMN.out (by decide) (by have := HMN.out; omega) (by omega) (by decide))
        clear hr hlp
        have HP := Lib.hid (fun w => primeC_any w)
        have HSR := Lib.hid (sC r)
        have HNW := Lib.hid (show N + 1 < wr.heap.size from HA2.out.lt)
        go_wp2_with fail
        refine wp_region_upA 7 5 6 [0, 1, 2, 3, 4, 5] _ (.cells (nums .u64 (zer 4)) 135) (by kernel_rfl) (by kernel_rfl) (fun _ _ dst _ _ h => by cases dst <;> exact h) rfl (fun a w K hK => wpOp_of_run rfl rfl (run_allocC a _ rfl w) hK) rfl ?_
        simp only [List.take_succ_cons, List.take_zero, List.drop_succ_cons, List.drop_zero, List.eraseIdx_cons_succ, List.eraseIdx_cons_zero]
        refine upW_val (by rfl) (by rfl) (by rfl) (fun K hK => quiet_load_row _ _ rfl N rfl 135 _ (0, 0) _ HA1.out Tryd.underlying135 rfl HS.out (hK _ ?_))
        simp only [Act.put, List.setIfInBounds_toArray, List.set]
        refine upW_call (by rfl) (by rfl) (.agg (nums .u64 (w4 57896044618658097711785492504343953926634992332820282019728792003956564819949))) _ rfl (by simp) (fun p => ?_) ?_
        · go_big_quiet_op
          exact ⟨_, fun q => Calls.ext_of (HP.out q.x), rfl⟩
        simp only [Act.put, List.setIfInBounds_toArray, List.set]
        refine upW_call (by rfl) (by rfl) (.tuple #[.agg (nums .u64 (w4 r)), .int .u64 0]) _ rfl (by simp) (fun p => ?_) ?_
        · go_big_quiet_op
          exact ⟨_, fun q => Calls.ext_of (HQ.out q.x), rfl⟩
        simp only [Act.put, List.setIfInBounds_toArray, List.set]
        refine upW_val (by rfl) (by rfl) (by rfl) ?_
        intro K hK
        go_big_quiet_op
        refine hK _ ?_
        refine upW_late (by rfl) (.agg (nums .u64 (w4 r))) (fun _ => rfl) ?_
        simp only [Act.put, List.setIfInBounds_toArray, List.set]
        refine upW_late (by rfl) (.int .u64 0) (fun _ => rfl) ?_
        simp only [Act.put, List.setIfInBounds_toArray, List.set]
        refine upW_nil (fun M wm hM hbm hom => ?_)
        simp only [List.setIfInBounds_toArray]
        have HOM := Lib.hid hom
        have HBM := Lib.hid hbm
        have hM1 : N + 1 < M := Nat.lt_of_lt_of_le HNW.out hM
        have HN1 := Lib.hid (HA1.out.ext hbm)
        have HN2 := Lib.hid (HA2.out.ext hbm)
        clear hom hbm
        go_wp2_with (refine wpList_store_row rfl 135 _ _ rfl M (nums .u64 (w4 r)) rfl rfl 135 _ HOM.out HSR.out ?hold (nums_one _ _) (Stop.out ?_))
        case hold => rw [size_nums, size_nums, zer_len]; rfl
        generalize hWS : World.setRow _ _ _ = ws
        have H1 := Lib.hid (show RW ws N .u64 135 (w4 m) by subst hWS; exact HN1.out.other (setRow_other _ _ _ _ (by omega)))
        have H2 := Lib.hid (show RW ws (N + 1) .u64 135 (zer 4) by subst hWS; exact HN2.out.other (setRow_other _ _ _ _ (by omega)))
        have H3 := Lib.hid (show RW ws M .u64 135 (w4 r) by subst hWS; exact setRow_heap _ _ _ _ _ _ HOM.out)
        have HB3 := Lib.hid (show Below N w ws by subst hWS; exact Below.setRow (HBE.out.trans (HBM.out.mono (by have := HNW.out; omega))) (by omega) _)
        clear hWS HN1 HN2 HOM HBM HA1 HA2 HBE
        refine ⟨?_⟩
        have HO := Lib.hid (show (nums .u64 (w4 m)).size = (nums .u64 (w4 r)).size by rw [size_nums, size_nums, w4_len, w4_len])
        go_wp2_with (first | (refine wpList_load_row rfl 135 _ rfl M rfl 135 _ (0, 0) _ H3.out Tryd.underlying135 rfl HSR.out ?_) | (refine wpList_store_row rfl 135 _ _ rfl N (nums .u64 (w4 r)) rfl rfl 135 _ H1.out HSR.out HO.out (nums_one _ _) ?_))
        go_roundw
        case rel => exact ⟨k + 1, r, rfl, hlt, HM2, setRow_heap _ _ _ _ _ _ H1.out, H2.out.other (setRow_other _ _ _ _ (by omega)), Below.setRow HB3.out (Nat.le_refl _) _⟩
        case measure => simp [intOf]; omega
    · have hlt' : ¬ (k : Int) < 2 := by omega
      have HRES := Lib.hid (show n % 57896044618658097711785492504343953926634992332820282019728792003956564819949 = m by rw [← HM.out, Nat.add_mul_mod_self_right]; exact Nat.mod_eq_of_lt (by have := HM.out; have := HNN.out; omega))
      have HO := Lib.hid (show (nums .u64 (zer 4)).size = (nums .u64 (w4 m)).size by rw [size_nums, size_nums, zer_len, w4_len])
      go_wp2_with (first | (refine wpList_load_row rfl 135 _ rfl N rfl 135 _ (0, 0) _ HA1.out Tryd.underlying135 rfl HS.out ?_) | (refine wpList_store_row rfl 135 _ _ rfl (N + 1) (nums .u64 (w4 m)) rfl rfl 135 _ HA2.out HS.out HO.out (nums_one _ _) ?_))
      refine bodyPost_ret (results_cell_row (by rfl) _ _ (N + 1) 135 (nums .u64 (w4 m)) (0, 0) _ (by rfl) (setRow_heap _ _ _ _ _ _ HA2.out) Tryd.underlying135 rfl HS.out) rfl ⟨by rw [HRES.out], ?_⟩
      rw [HN.out]
      exact Below.setRow HBE.out (by omega) _
end Go.Proofs.YtlpchgoaoglhcaaDoor
namespace Go.Proofs.YtlpchgoaoglhcaaDoor
open Go.RowKit
set_option maxRecDepth 100000 in
set_option maxHeartbeats 1000000 in
theorem lessC_any (n m : Nat) (w : World) (hn : n < 115792089237316195423570985008687907853269984665640564039457584007913129639936) (hm : m < 115792089237316195423570985008687907853269984665640564039457584007913129639936) :
    Calls Tryd.prog 90 #[.agg (nums .u64 (w4 n)), .agg (nums .u64 (w4 m))] w fun e w' => e = .returned (.bool (decide (n < m))) ∧ Below w.heap.size w w' := by
  have HSN := Lib.hid (sC n)
  have HSM := Lib.hid (sC m)
  have hz := zC
  by_cases hlt : n < m
  · obtain ⟨r, hr⟩ : ∃ r, n + 115792089237316195423570985008687907853269984665640564039457584007913129639936 - m = r := ⟨_, rfl⟩
    have HQ := Lib.hid (fun w => takeC_any n m r 1 w hn hm (by omega) (by omega) (by decide))
    have HSR := Lib.hid (sC r)
    have HLT := Lib.hid hlt
    clear hr hlt hn hm
    go_enter Tryd.func90, Tryd.ntmps90
    go_upto_region 1 with fail
    generalize hW1 : World.alloc _ _ = W1
    obtain ⟨N, hN⟩ : ∃ n, w.heap.size = n := ⟨_, rfl⟩
    have HR1 := Lib.hid (show RW W1 N .u64 135 (w4 n) by subst hW1; rw [← hN]; exact (alloc2_at w _ _).1)
    have HR2 := Lib.hid (show RW W1 (N + 1) .u64 135 (w4 m) by subst hW1; rw [← hN]; exact (alloc2_at w _ _).2)
    have HB1 := Lib.hid (show Below N w W1 by subst hW1; rw [← hN]; exact ((Below.refl _ w).alloc (Nat.le_refl _) _).alloc (by simp) _)
    have HNL := Lib.hid HR2.out.lt
    have HN := Lib.hid hN
    rw [hN]
    clear hW1 hN
    go_wp2_with (first
      | (refine wpList_load_row rfl 135 _ rfl N rfl 135 (nums .u64 (w4 n)) (0, 0) _ HR1.out Tryd.underlying135 rfl HSN.out ?_)
      | (refine wpList_load_row rfl 135 _ rfl (N + 1) rfl 135 (nums .u64 (w4 m)) (0, 0) _ HR2.out Tryd.underlying135 rfl HSM.out ?_)
      )
    refine (HQ.out _).mono ?_
    rintro e w2 ⟨rfl, hb2⟩
    have HB2 := Lib.hid hb2
    clear hb2
    go_wp2_with (refine wpList_store_row rfl 135 _ _ rfl w2.heap.size (nums .u64 (w4 r)) rfl rfl 135 _ (Go.heap_alloc_new _ _) HSR.out ?hold (nums_one _ _) (Stop.out ?_))
    case hold => rw [size_nums, size_nums, zer_len, w4_len]
    generalize hWS : World.setRow _ _ _ = ws
    obtain ⟨M, hM⟩ : ∃ n, w2.heap.size = n := ⟨_, rfl⟩
    have hMN : N + 1 < M := by rw [← hM]; have := HB2.out.size; have := HNL.out; omega
    have HD := Lib.hid (show RW ws M .u64 135 (w4 r) by subst hWS; rw [← hM]; exact setRow_heap _ _ _ _ _ _ (Go.heap_alloc_new _ _))
    have HBS := Lib.hid (show Below N w ws by subst hWS; rw [hM]; exact Below.setRow ((HB1.out.trans (HB2.out.mono (by have := HNL.out; omega))).alloc (by omega) _) (by omega) _)
    rw [hM]
    clear hWS hM HB1 HB2 HR1 HR2
    refine ⟨?_⟩
    go_wp2
    go_ret
    exact ⟨congrArg (fun b => Ending.returned (Value.bool b)) (decide_eq_true HLT.out).symm, HN.out.symm ▸ HBS.out⟩
  · obtain ⟨r, hr⟩ : ∃ r, n - m = r := ⟨_, rfl⟩
    have HQ := Lib.hid (fun w => takeC_any n m r 0 w hn hm (by omega) (by omega) (by decide))
    have HSR := Lib.hid (sC r)
    have HLT := Lib.hid hlt
    clear hr hlt hn hm
    go_enter Tryd.func90, Tryd.ntmps90
    go_upto_region 1 with fail
    generalize hW1 : World.alloc _ _ = W1
    obtain ⟨N, hN⟩ : ∃ n, w.heap.size = n := ⟨_, rfl⟩
    have HR1 := Lib.hid (show RW W1 N .u64 135 (w4 n) by subst hW1; rw [← hN]; exact (alloc2_at w _ _).1)
    have HR2 := Lib.hid (show RW W1 (N + 1) .u64 135 (w4 m) by subst hW1; rw [← hN]; exact (alloc2_at w _ _).2)
    have HB1 := Lib.hid (show Below N w W1 by subst hW1; rw [← hN]; exact ((Below.refl _ w).alloc (Nat.le_refl _) _).alloc (by simp) _)
    have HNL := Lib.hid HR2.out.lt
    have HN := Lib.hid hN
    rw [hN]
    clear hW1 hN
    go_wp2_with (first
      | (refine wpList_load_row rfl 135 _ rfl N rfl 135 (nums .u64 (w4 n)) (0, 0) _ HR1.out Tryd.underlying135 rfl HSN.out ?_)
      | (refine wpList_load_row rfl 135 _ rfl (N + 1) rfl 135 (nums .u64 (w4 m)) (0, 0) _ HR2.out Tryd.underlying135 rfl HSM.out ?_)
      )
    refine (HQ.out _).mono ?_
    rintro e w2 ⟨rfl, hb2⟩
    have HB2 := Lib.hid hb2
    clear hb2
    go_wp2_with (refine wpList_store_row rfl 135 _ _ rfl w2.heap.size (nums .u64 (w4 r)) rfl rfl 135 _ (Go.heap_alloc_new _ _) HSR.out ?hold (nums_one _ _) (Stop.out ?_))
    case hold => rw [size_nums, size_nums, zer_len, w4_len]
    generalize hWS : World.setRow _ _ _ = ws
    obtain ⟨M, hM⟩ : ∃ n, w2.heap.size = n := ⟨_, rfl⟩
    have hMN : N + 1 < M := by rw [← hM]; have := HB2.out.size; have := HNL.out; omega
    have HD := Lib.hid (show RW ws M .u64 135 (w4 r) by subst hWS; rw [← hM]; exact setRow_heap _ _ _ _ _ _ (Go.heap_alloc_new _ _))
    have HBS := Lib.hid (show Below N w ws by subst hWS; rw [hM]; exact Below.setRow ((HB1.out.trans (HB2.out.mono (by have := HNL.out; omega))).alloc (by omega) _) (by omega) _)
    rw [hM]
    clear hWS hM HB1 HB2 HR1 HR2
    refine ⟨?_⟩
    go_wp2
    go_ret
    exact ⟨congrArg (fun b => Ending.returned (Value.bool b)) (decide_eq_false HLT.out).symm, HN.out.symm ▸ HBS.out⟩
set_option maxRecDepth 100000 in
set_option maxHeartbeats 1000000 in
theorem minusC_any (n m : Nat) (w : World) (hn : n < 57896044618658097711785492504343953926634992332820282019728792003956564819949) (hm : m < 57896044618658097711785492504343953926634992332820282019728792003956564819949) :
    Calls Tryd.prog 95 #[.agg (nums .u64 (w4 n)), .agg (nums .u64 (w4 m))] w fun e w' => e = .returned (.agg (nums .u64 (w4 ((n + 57896044618658097711785492504343953926634992332820282019728792003956564819949 - m) % 57896044618658097711785492504343953926634992332820282019728792003956564819949)))) ∧ Below w.heap.size w w' := by
  have HSN := Lib.hid (sC n)
  have HSM := Lib.hid (sC m)
  have hz := zC
  by_cases hlt : n < m
  · obtain ⟨r, hr⟩ : ∃ r, n + 115792089237316195423570985008687907853269984665640564039457584007913129639936 - m = r := ⟨_, rfl⟩
    obtain ⟨x, hx⟩ : ∃ x, n + 57896044618658097711785492504343953926634992332820282019728792003956564819949 - m = x := ⟨_, rfl⟩
    have HQ := Lib.hid (fun w => takeC_any n m r 1 w (by omega) (by omega) (by omega) (by omega) (by decide))
    have HP := Lib.hid (fun w => primeC_any w)
    have HA := Lib.hid (fun w => plusC_any r 57896044618658097711785492504343953926634992332820282019728792003956564819949 x 1 w (by omega) (by decide) (by omega) (by omega))
    have HX := Lib.hid (show (n + 57896044618658097711785492504343953926634992332820282019728792003956564819949 - m) % 57896044618658097711785492504343953926634992332820282019728792003956564819949 = x by omega)
    have HSR := Lib.hid (sC r)
    have HSX := Lib.hid (sC x)
    clear hr hx hlt hn hm
    go_enter Tryd.func95, Tryd.ntmps95
    go_upto_region 1 with fail
    generalize hW1 : World.alloc _ _ = W1
    obtain ⟨N, hN⟩ : ∃ n, w.heap.size = n := ⟨_, rfl⟩
    have HR1 := Lib.hid (show RW W1 N .u64 135 (w4 n) by subst hW1; rw [← hN]; exact (alloc3_at w _ _ _).1)
    have HR2 := Lib.hid (show RW W1 (N + 1) .u64 135 (w4 m) by subst hW1; rw [← hN]; exact (alloc3_at w _ _ _).2.1)
    have HR3 := Lib.hid (show RW W1 (N + 1 + 1) .u64 135 (zer 4) by subst hW1; rw [← hN]; exact (alloc3_at w _ _ _).2.2)
    have HB1 := Lib.hid (show Below N w W1 by subst hW1; rw [← hN]; exact Below.alloc3 w _ _ _)
    have HNL := Lib.hid HR3.out.lt
    have HN := Lib.hid hN
    rw [hN]
    clear hW1 hN
    go_wp2_with (first
      | (refine wpList_load_row rfl 135 _ rfl N rfl 135 (nums .u64 (w4 n)) (0, 0) _ HR1.out Tryd.underlying135 rfl HSN.out ?_)
      | (refine wpList_load_row rfl 135 _ rfl (N + 1) rfl 135 (nums .u64 (w4 m)) (0, 0) _ HR2.out Tryd.underlying135 rfl HSM.out ?_)
      )
    refine (HQ.out _).mono ?_
    rintro e w2 ⟨rfl, hb2⟩
    have HB2 := Lib.hid hb2
    clear hb2
    go_wp2_with (refine wpList_store_row rfl 135 _ _ rfl w2.heap.size (nums .u64 (w4 r)) rfl rfl 135 _ (Go.heap_alloc_new _ _) HSR.out ?hold (nums_one _ _) (Stop.out ?_))
    case hold => rw [size_nums, size_nums, zer_len, w4_len]
    generalize hWS : World.setRow _ _ _ = ws
    obtain ⟨M, hM⟩ : ∃ n, w2.heap.size = n := ⟨_, rfl⟩
    have hMN : N + 1 + 1 < M := by rw [← hM]; have := HB2.out.size; have := HNL.out; omega
    have HD := Lib.hid (show RW ws M .u64 135 (w4 r) by subst hWS; rw [← hM]; exact setRow_heap _ _ _ _ _ _ (Go.heap_alloc_new _ _))
    have HBS := Lib.hid (show Below N w ws by subst hWS; rw [hM]; exact Below.setRow ((HB1.out.trans (HB2.out.mono (by have := HNL.out; omega))).alloc (by omega) _) (by omega) _)
    have HO3 := Lib.hid (show RW ws (N + 1 + 1) .u64 135 (zer 4) by subst hWS; exact (HR3.out.ext HB2.out).other ((setRow_other _ _ _ _ (by omega)).trans (Go.heap_alloc_old _ _ (HR3.out.ext HB2.out).lt)))
    rw [hM]
    clear hWS hM HB1 HB2 HR1 HR2
    refine ⟨?_⟩
    go_wp2_with fail
    refine wp_region_up 6 5 (by kernel_rfl) (by kernel_rfl) (fun _ _ dst _ _ h => by cases dst <;> exact h) ?_
    simp only [List.take_succ_cons, List.take_zero, List.drop_succ_cons, List.drop_zero]
    refine upW_val (by rfl) (by rfl) (by rfl) (fun K hK => quiet_load_row _ _ rfl M rfl 135 _ (0, 0) _ HD.out Tryd.underlying135 rfl HSR.out (hK _ ?_))
    simp only [Act.put, List.setIfInBounds_toArray, List.set]
    refine upW_call (by rfl) (by rfl) (.agg (nums .u64 (w4 57896044618658097711785492504343953926634992332820282019728792003956564819949))) _ rfl (by simp) (fun p => ?_) ?_
    · go_big_quiet_op
      exact ⟨_, fun q => Calls.ext_of (HP.out q.x), rfl⟩
    simp only [Act.put, List.setIfInBounds_toArray, List.set]
    refine upW_call (by rfl) (by rfl) (.tuple #[.agg (nums .u64 (w4 x)), .int .u64 1]) _ rfl (by simp) (fun p => ?_) ?_
    · go_big_quiet_op
      exact ⟨_, fun q => Calls.ext_of (HA.out q.x), rfl⟩
    simp only [Act.put, List.setIfInBounds_toArray, List.set]
    refine upW_val (by rfl) (by rfl) (by rfl) ?_
    intro K hK
    go_big_quiet_op
    refine hK _ ?_
    refine upW_late (by rfl) (.agg (nums .u64 (w4 x))) (fun _ => rfl) ?_
    simp only [Act.put, List.setIfInBounds_toArray, List.set]
    refine upW_late (by rfl) (.int .u64 1) (fun _ => rfl) ?_
    simp only [Act.put, List.setIfInBounds_toArray, List.set]
    refine upW_nil (fun wy hby => ?_)
    have HDY := Lib.hid (HD.out.ext hby)
    have HOY := Lib.hid (HO3.out.ext hby)
    have HBY := Lib.hid (show Below N w wy from HBS.out.trans (hby.mono (by have := HO3.out.lt; omega)))
    have HO1 := Lib.hid (show (nums .u64 (w4 r)).size = (nums .u64 (w4 x)).size by rw [size_nums, size_nums, w4_len, w4_len])
    have HO2 := Lib.hid (show (nums .u64 (zer 4)).size = (nums .u64 (w4 x)).size by rw [size_nums, size_nums, zer_len, w4_len])
    clear hby HD HO3 HBS
    go_wp2_with (refine wpList_store_row rfl 135 _ _ rfl M (nums .u64 (w4 x)) rfl rfl 135 _ HDY.out HSX.out HO1.out (nums_one _ _) (Stop.out ?_))
    generalize hWS : World.setRow _ _ _ = ws'
    have HE := Lib.hid (show RW ws' M .u64 135 (w4 x) by subst hWS; exact setRow_heap _ _ _ _ _ _ HDY.out)
    have HO4 := Lib.hid (show RW ws' (N + 1 + 1) .u64 135 (zer 4) by subst hWS; exact HOY.out.other (setRow_other _ _ _ _ (by omega)))
    have HB4 := Lib.hid (show Below N w ws' by subst hWS; exact Below.setRow HBY.out (by omega) _)
    clear hWS HDY HOY HBY
    refine ⟨?_⟩
    go_wp2_with (first
      | (refine wpList_load_row rfl 135 _ rfl M rfl 135 (nums .u64 (w4 x)) (0, 0) _ HE.out Tryd.underlying135 rfl HSX.out ?_)
      | (refine wpList_store_row rfl 135 _ _ rfl (N + 1 + 1) (nums .u64 (w4 x)) rfl rfl 135 _ HO4.out HSX.out HO2.out (nums_one _ _) ?_)
      )
    refine bodyPost_ret (results_cell_row (by rfl) _ _ (N + 1 + 1) 135 (nums .u64 (w4 x)) (0, 0) _ (by rfl) (setRow_heap _ _ _ _ _ _ HO4.out) Tryd.underlying135 rfl HSX.out) rfl ⟨by rw [HX.out], ?_⟩
    rw [HN.out]
    exact Below.setRow HB4.out (by omega) _
  · obtain ⟨r, hr⟩ : ∃ r, n - m = r := ⟨_, rfl⟩
    have HQ := Lib.hid (fun w => takeC_any n m r 0 w (by omega) (by omega) (by omega) (by omega) (by decide))
    have HX := Lib.hid (show (n + 57896044618658097711785492504343953926634992332820282019728792003956564819949 - m) % 57896044618658097711785492504343953926634992332820282019728792003956564819949 = r by omega)
    have HSR := Lib.hid (sC r)
    have HO2 := Lib.hid (show (nums .u64 (zer 4)).size = (nums .u64 (w4 r)).size by rw [size_nums, size_nums, zer_len, w4_len])
    clear hr hlt hn hm
    go_enter Tryd.func95, Tryd.ntmps95
    go_upto_region 1 with fail
    generalize hW1 : World.alloc _ _ = W1
    obtain ⟨N, hN⟩ : ∃ n, w.heap.size = n := ⟨_, rfl⟩
    have HR1 := Lib.hid (show RW W1 N .u64 135 (w4 n) by subst hW1; rw [← hN]; exact (alloc3_at w _ _ _).1)
    have HR2 := Lib.hid (show RW W1 (N + 1) .u64 135 (w4 m) by subst hW1; rw [← hN]; exact (alloc3_at w _ _ _).2.1)
    have HR3 := Lib.hid (show RW W1 (N + 1 + 1) .u64 135 (zer 4) by subst hW1; rw [← hN]; exact (alloc3_at w _ _ _).2.2)
    have HB1 := Lib.hid (show Below N w W1 by subst hW1; rw [← hN]; exact Below.alloc3 w _ _ _)
    have HNL := Lib.hid HR3.out.lt
    have HN := Lib.hid hN
    rw [hN]
    clear hW1 hN
    go_wp2_with (first
      | (refine wpList_load_row rfl 135 _ rfl N rfl 135 (nums .u64 (w4 n)) (0, 0) _ HR1.out Tryd.underlying135 rfl HSN.out ?_)
      | (refine wpList_load_row rfl 135 _ rfl (N + 1) rfl 135 (nums .u64 (w4 m)) (0, 0) _ HR2.out Tryd.underlying135 rfl HSM.out ?_)
      )
    refine (HQ.out _).mono ?_
    rintro e w2 ⟨rfl, hb2⟩
    have HB2 := Lib.hid hb2
    clear hb2
    go_wp2_with (refine wpList_store_row rfl 135 _ _ rfl w2.heap.size (nums .u64 (w4 r)) rfl rfl 135 _ (Go.heap_alloc_new _ _) HSR.out ?hold (nums_one _ _) (Stop.out ?_))
    case hold => rw [size_nums, size_nums, zer_len, w4_len]
    generalize hWS : World.setRow _ _ _ = ws
    obtain ⟨M, hM⟩ : ∃ n, w2.heap.size = n := ⟨_, rfl⟩
    have hMN : N + 1 + 1 < M := by rw [← hM]; have := HB2.out.size; have := HNL.out; omega
    have HD := Lib.hid (show RW ws M .u64 135 (w4 r) by subst hWS; rw [← hM]; exact setRow_heap _ _ _ _ _ _ (Go.heap_alloc_new _ _))
    have HBS := Lib.hid (show Below N w ws by subst hWS; rw [hM]; exact Below.setRow ((HB1.out.trans (HB2.out.mono (by have := HNL.out; omega))).alloc (by omega) _) (by omega) _)
    have HO3 := Lib.hid (show RW ws (N + 1 + 1) .u64 135 (zer 4) by subst hWS; exact (HR3.out.ext HB2.out).other ((setRow_other _ _ _ _ (by omega)).trans (Go.heap_alloc_old _ _ (HR3.out.ext HB2.out).lt)))
    rw [hM]
    clear hWS hM HB1 HB2 HR1 HR2
    refine ⟨?_⟩
    go_wp2_with (first
      | (refine wpList_load_row rfl 135 _ rfl M rfl 135 (nums .u64 (w4 r)) (0, 0) _ HD.out Tryd.underlying135 rfl HSR.out ?_)
      | (refine wpList_store_row rfl 135 _ _ rfl (N + 1 + 1) (nums .u64 (w4 r)) rfl rfl 135 _ HO3.out HSR.out HO2.out (nums_one _ _) ?_)
      )
    refine bodyPost_ret (results_cell_row (by rfl) _ _ (N + 1 + 1) 135 (nums .u64 (w4 r)) (0, 0) _ (by rfl) (setRow_heap _ _ _ _ _ _ HO3.out) Tryd.underlying135 rfl HSR.out) rfl ⟨by rw [HX.out], ?_⟩
    rw [HN.out]
    exact Below.setRow HBS.out (by omega) _
/-- Byte i of a number. -/
def byt (n i : Nat) : UInt8 := UInt8.ofNat (n / 256 ^ i % 256)
theorem b32_byt (n : Nat) : b32 n = (List.range 32).map (byt n) := by
  apply List.ext_getElem?
  intro i
  by_cases hi : i < 32
  · have h := b32_get n i hi
    rw [List.getD_eq_getElem?_getD] at h
    rw [List.getElem?_eq_getElem (by rw [b32_len]; exact hi)] at h ⊢
    simp only [Option.getD_some] at h
    rw [h]
    simp [byt, hi]
  · rw [List.getElem?_eq_none (by rw [b32_len]; omega), List.getElem?_eq_none (by simp; omega)]
theorem zN (w : World) : (zeroValue 102).run Tryd.prog w = .ok (.agg (byteVals (zerB 32)).toArray) w :=
  (zero_of_info (P := Tryd.prog) (t := 102) (v := .agg (byteVals (zerB 32)).toArray) (n := 32) (by kernel_rfl)).1 w
theorem sN (l : List UInt8) (h : l.length = 32) : (Tryd.prog.info? 102).map (·.size) = some (byteVals l).toArray.size := by rw [size_byteVals, h]; kernel_rfl
set_option maxRecDepth 100000 in
set_option maxHeartbeats 1000000 in
theorem numC_any (n : Nat) (w : World) :
    Calls Tryd.prog 96 #[.agg (nums .u64 (w4 n))] w fun e w' => e = .returned (.agg (byteVals (b32 n)).toArray) ∧ Below w.heap.size w w' := by
  have HSN := Lib.hid (sC n)
  have hz := zN
  go_enter Tryd.func96, Tryd.ntmps96
  go_wp2_with (refine wpList_load_row rfl 135 _ rfl w.heap.size rfl 135 (nums .u64 (w4 n)) (0, 0) _ (alloc3_at w _ _ _).1 Tryd.underlying135 rfl HSN.out ?_)
  generalize hW1 : World.alloc _ _ = W1
  obtain ⟨N, hN⟩ : ∃ n, w.heap.size = n := ⟨_, rfl⟩
  have HR2 := Lib.hid (show BT W1 (N + 1) 102 (zerB 32) by subst hW1; rw [← hN]; exact (alloc3_at w _ _ _).2.1)
  have HR3 := Lib.hid (show BT W1 (N + 1 + 1) 102 ((List.range 0).map (byt n) ++ zerB (32 - 0)) by subst hW1; rw [← hN]; exact (alloc3_at w _ _ _).2.2)
  have HB1 := Lib.hid (show Below N w W1 by subst hW1; rw [← hN]; exact Below.alloc3 w _ _ _)
  have HN := Lib.hid hN
  rw [hN]
  clear hW1 hN hz
  go_loopw [8] (fun iv wr => ∃ (k : Nat), iv = .int .i64 k ∧ k ≤ 4 ∧ BT wr (N + 1) 102 (zerB 32) ∧ BT wr (N + 1 + 1) 102 ((List.range (8 * k)).map (byt n) ++ zerB (32 - 8 * k)) ∧ Below N w wr) (fun i _ => 4 - (intOf i).toNat)
  case atStart => exact ⟨0, rfl, Nat.zero_le _, HR2.out, HR3.out, HB1.out⟩
  case round =>
    obtain ⟨k, rfl, hk, hr2, hr3, hbel⟩ := hrel
    have HA2 := Lib.hid hr2
    have HA3 := Lib.hid hr3
    have HBE := Lib.hid hbel
    clear hr2 hr3 hbel HR2 HR3 HB1
    by_cases hlt : k < 4
    · have hlt' : (k : Int) < 4 := by omega
      have HIX := Lib.hid (fun w => index_arr (P := Tryd.prog) w 135 52 4 (nums .u64 (w4 n)) .i64 k (.int .u64 ((wd n k : Nat) : Int)) Tryd.underlying135 (by kernel_rfl) (by kernel_rfl) hlt (by
        have := w4_get n k hlt
        rw [← this]
        simp [nums, List.getElem?_eq_getElem (show k < (w4 n).length by rw [w4_len]; exact hlt)]))
      have HWL := Lib.hid (show wd n k < 18446744073709551616 from Nat.mod_lt _ (by decide))
      have HBY := Lib.hid (fun j (hj : j < 8) => wd_byte n k j hj)
      have hix := HIX.out
      generalize wd n k = x at hix HWL HBY
      clear HIX
      obtain ⟨e, he⟩ : ∃ e, 8 * k = e := ⟨_, rfl⟩
      rw [he] at HA3 HBY
      have i1 : (8 : Int) * (k : Int) = (e : Int) := by omega
      have i2 : IntKind.i64.wrap (e : Int) = (e : Int) := by rw [IntKind.wrap_i64]; omega
      have HE := Lib.hid he
      have hle : e ≤ 24 := by omega
      clear he
      go_wp2_with fail
      go_loopw [12] (fun iv wq => ∃ (j : Nat), iv = .int .i64 j ∧ j ≤ 8 ∧ BT wq (N + 1) 102 (zerB 32) ∧ BT wq (N + 1 + 1) 102 ((List.range (e + j)).map (byt n) ++ zerB (32 - (e + j))) ∧ Below N w wq) (fun i _ => 8 - (intOf i).toNat)
      case atStart => exact ⟨0, rfl, Nat.zero_le _, HA2.out, HA3.out, HBE.out⟩
      case round =>
        obtain ⟨j, rfl, hj, hr2, hr3, hbel⟩ := hrel
        have HC2 := Lib.hid hr2
        have HC3 := Lib.hid hr3
        have HCE := Lib.hid hbel
        clear hr2 hr3 hbel HA2 HA3 HBE
        by_cases hlt2 : j < 8
        · have hlt2' : (j : Int) < 8 := by omega
          obtain ⟨g, hg⟩ : ∃ g, 8 * j = g := ⟨_, rfl⟩
          have j1 : (8 : Int) * (j : Int) = (g : Int) := by omega
          have j2 : IntKind.i64.wrap (g : Int) = (g : Int) := by rw [IntKind.wrap_i64]; omega
          have j3 : IntKind.i64.wrap ((e : Int) + (j : Int)) = (e : Int) + (j : Int) := by rw [IntKind.wrap_i64]; omega
          have j4 : (0 : Int) ≤ (e : Int) + (j : Int) := by omega
          have j5 : (e : Int) + (j : Int) < 32 := by omega
          have j6 : ((e : Int) + (j : Int)).toNat = e + j := by omega
          have h8 : IntKind.u8.wrap ((x : Int) / 2 ^ g) = ((byt n (e + j)).toNat : Int) := by
            have h := HBY.out j hlt2
            rw [hg] at h
            rw [show (x : Int) / 2 ^ g = ((x / 2 ^ g : Nat) : Int) by simp, IntKind.wrap_u8]
            unfold byt
            rw [UInt8.toNat_ofNat', Nat.mod_eq_of_lt (Nat.mod_lt _ (by decide)), ← h]
            omega
          have HS := Lib.hid (show ((List.range (e + j)).map (byt n) ++ zerB (32 - (e + j))).set (e + j) (byt n (e + j)) = (List.range (e + (j + 1))).map (byt n) ++ zerB (32 - (e + (j + 1))) by
            rw [show 32 - (e + j) = (32 - (e + (j + 1))) + 1 by omega]
            exact fill_set (byt n) 0 (e + j) (32 - (e + (j + 1))))
          obtain ⟨z, hz⟩ : ∃ z, byt n (e + j) = z := ⟨_, rfl⟩
          rw [hz] at h8 HS
          have f3 := HC3.out.frozen (e + j)
          have c3 := HC3.out.cell (i := e + j) (by simp only [List.length_append, List.length_map, List.length_range, zerB_len]; omega)
          generalize ((List.range (e + j)).map (byt n) ++ zerB (32 - (e + j))).getD (e + j) 0 = oo at c3
          clear hz hg
          go_wp2_with fail
          go_roundw
          case rel => exact ⟨j + 1, rfl, hlt2, HC2.out.other (setCell_other _ (by omega)), by rw [← HS.out]; exact HC3.out.set z, HCE.out.setCell (p := ⟨N + 1 + 1, e + j, none⟩) (by show N ≤ N + 1 + 1; omega) _⟩
          case measure => simp [intOf]; omega
        · have hlt2' : ¬ (j : Int) < 8 := by omega
          have HC4 := Lib.hid (show BT wr (N + 1 + 1) 102 ((List.range (8 * (k + 1))).map (byt n) ++ zerB (32 - 8 * (k + 1))) by
            have := HC3.out
            rw [show e + j = 8 * (k + 1) by have := HE.out; omega] at this
            exact this)
          clear HC3
          go_wp2_with fail
          go_roundw
          case rel => exact ⟨k + 1, rfl, hlt, HC2.out, HC4.out, HCE.out⟩
          case measure => simp [intOf]; omega
    · have hlt' : ¬ (k : Int) < 4 := by omega
      have HSB := Lib.hid (sN (b32 n) (b32_len n))
      have HO := Lib.hid (show (byteVals (zerB 32)).toArray.size = (byteVals (b32 n)).toArray.size by rw [size_byteVals, size_byteVals, zerB_len, b32_len])
      have h3 := HA3.out
      rw [show 8 * k = 32 by omega, ← b32_byt, show zerB (32 - 32) = [] from rfl, List.append_nil] at h3
      have H3 := Lib.hid h3
      clear h3 HA3
      go_wp2_with (first
        | (refine wpList_load_row rfl 102 _ rfl (N + 1 + 1) rfl 102 ((byteVals (b32 n)).toArray) (0, 0) _ H3.out Tryd.underlying102 rfl HSB.out ?_)
        | (refine wpList_store_row rfl 102 _ _ rfl (N + 1) ((byteVals (b32 n)).toArray) rfl rfl 102 _ HA2.out HSB.out HO.out (byteVals_one _) ?_)
        )
      refine bodyPost_ret (results_cell_row (by rfl) _ _ (N + 1) 102 ((byteVals (b32 n)).toArray) (0, 0) _ (by rfl) (setRow_heap _ _ _ _ _ _ HA2.out) Tryd.underlying102 rfl HSB.out) rfl ⟨rfl, ?_⟩
      rw [HN.out]
      exact Below.setRow HBE.out (by omega) _
end Go.Proofs.YtlpchgoaoglhcaaDoor
namespace Go.Proofs.YtlpchgoaoglhcaaDoor
theorem nv_append : ∀ (l m : List Nat), nv (l ++ m) = nv l + 18446744073709551616 ^ l.length * nv m
  | [], m => by simp [nv]
  | x :: l, m => by
    rw [List.cons_append, nv, nv_append l m, nv, List.length_cons, Nat.pow_succ, Nat.mul_add]
    rw [Nat.mul_comm (18446744073709551616 ^ l.length) 18446744073709551616, Nat.mul_assoc]
    omega
theorem nv_lt : ∀ l : List Nat, (∀ i, l.getD i 0 < 18446744073709551616) → nv l < 18446744073709551616 ^ l.length
  | [], _ => by decide
  | x :: l, h => by
    have h1 := h 0
    have h2 := nv_lt l (fun i => by have := h (i + 1); rwa [List.getD_cons_succ] at this)
    rw [List.getD_cons_zero] at h1
    rw [nv, List.length_cons, Nat.pow_succ]
    generalize 18446744073709551616 ^ l.length = K at h2 ⊢
    omega
theorem w4_nv (l : List Nat) (hl : l.length = 4) (h : ∀ i, l.getD i 0 < 18446744073709551616) : w4 (nv l) = l := by
  match l, hl with
  | [a, b, c, d], _ => exact w4_of a b c d _ (h 0) (h 1) (h 2) (h 3) (nv4 a b c d)
theorem w8_nv (l : List Nat) (hl : l.length = 8) (h : ∀ i, l.getD i 0 < 18446744073709551616) : l = w4 (nv l % 115792089237316195423570985008687907853269984665640564039457584007913129639936) ++ w4 (nv l / 115792089237316195423570985008687907853269984665640564039457584007913129639936) := by
  have e : l = l.take 4 ++ l.drop 4 := (List.take_append_drop 4 l).symm
  have h1 : ∀ i, (l.take 4).getD i 0 < 18446744073709551616 := fun i => by
    by_cases hi : i < 4
    · have := h i
      simp only [List.getD_eq_getElem?_getD, List.getElem?_take, if_pos hi] at this ⊢
      exact this
    · simp [List.getD_eq_getElem?_getD, List.getElem?_take, hi]
  have h2 : ∀ i, (l.drop 4).getD i 0 < 18446744073709551616 := fun i => by
    have := h (4 + i)
    simp only [List.getD_eq_getElem?_getD, List.getElem?_drop] at this ⊢
    exact this
  have e1 := nv_lt (l.take 4) h1
  have hn : nv l = nv (l.take 4) + 115792089237316195423570985008687907853269984665640564039457584007913129639936 * nv (l.drop 4) := by
    conv => lhs; rw [e]
    rw [nv_append, List.length_take, hl, show min 4 8 = 4 from rfl, show 18446744073709551616 ^ 4 = 115792089237316195423570985008687907853269984665640564039457584007913129639936 by decide]
  rw [List.length_take, hl] at e1
  have e2 : nv (l.take 4) < 115792089237316195423570985008687907853269984665640564039457584007913129639936 := e1
  have a1 : nv l % 115792089237316195423570985008687907853269984665640564039457584007913129639936 = nv (l.take 4) := by rw [hn, Nat.add_mul_mod_self_left, Nat.mod_eq_of_lt e2]
  have a2 : nv l / 115792089237316195423570985008687907853269984665640564039457584007913129639936 = nv (l.drop 4) := by rw [hn]; omega
  rw [a1, a2, w4_nv _ (by rw [List.length_take, hl]; rfl) h1, w4_nv _ (by rw [List.length_drop, hl]) h2]
  exact e
theorem wd_step (n k : Nat) : n % 18446744073709551616 ^ (k + 1) = n % 18446744073709551616 ^ k + 18446744073709551616 ^ k * wd n k := by
  unfold wd
  rw [Nat.pow_succ, Nat.mod_mul]
/-- One step of folding: what lies above goes in below. -/
def f1 (p : Nat × Nat) : Nat × Nat := ((p.1 + 38 * p.2) % 115792089237316195423570985008687907853269984665640564039457584007913129639936, (p.1 + 38 * p.2) / 115792089237316195423570985008687907853269984665640564039457584007913129639936)
def fk : Nat → Nat × Nat → Nat
  | 0, p => p.1
  | k + 1, p => fk k (f1 p)
/-- A number of eight words, folded. -/
def fo (lo hi : Nat) : Nat := fk 2 (f1 (lo, hi))
theorem f1_lt (p : Nat × Nat) : (f1 p).1 < 115792089237316195423570985008687907853269984665640564039457584007913129639936 := Nat.mod_lt _ (by decide)
theorem f1_zero (m : Nat) (h : m < 115792089237316195423570985008687907853269984665640564039457584007913129639936) : f1 (m, 0) = (m, 0) := by
  unfold f1
  simp only [Nat.mul_zero, Nat.add_zero]
  rw [Nat.mod_eq_of_lt h, Nat.div_eq_of_lt h]
theorem fk_zero (m : Nat) (h : m < 115792089237316195423570985008687907853269984665640564039457584007913129639936) : ∀ k, fk k (m, 0) = m
  | 0 => rfl
  | k + 1 => by rw [fk, f1_zero m h, fk_zero m h k]
theorem fk_lt : ∀ k p, p.1 < 115792089237316195423570985008687907853269984665640564039457584007913129639936 → fk k p < 115792089237316195423570985008687907853269984665640564039457584007913129639936
  | 0, _, h => h
  | k + 1, p, _ => by rw [fk]; exact fk_lt k _ (f1_lt p)
theorem fo_lt (lo hi : Nat) : fo lo hi < 115792089237316195423570985008687907853269984665640564039457584007913129639936 := fk_lt 2 _ (f1_lt _)
theorem f1_mod (p : Nat × Nat) : ((f1 p).1 + 115792089237316195423570985008687907853269984665640564039457584007913129639936 * (f1 p).2) % 57896044618658097711785492504343953926634992332820282019728792003956564819949 = (p.1 + 115792089237316195423570985008687907853269984665640564039457584007913129639936 * p.2) % 57896044618658097711785492504343953926634992332820282019728792003956564819949 := by
  unfold f1
  simp only
  generalize p.1 = a
  generalize p.2 = b
  have e1 : (a + 38 * b) % 115792089237316195423570985008687907853269984665640564039457584007913129639936 + 115792089237316195423570985008687907853269984665640564039457584007913129639936 * ((a + 38 * b) / 115792089237316195423570985008687907853269984665640564039457584007913129639936) = a + 38 * b := Nat.mod_add_div _ _
  rw [e1, show 115792089237316195423570985008687907853269984665640564039457584007913129639936 * b = 38 * b + 57896044618658097711785492504343953926634992332820282019728792003956564819949 * (2 * b) by omega, ← Nat.add_assoc, Nat.add_mul_mod_self_left]
/-- How much may lie above in each round. -/
def fb : Nat → Nat × Nat → Prop
  | 2, p => p.1 < 115792089237316195423570985008687907853269984665640564039457584007913129639936 ∧ p.2 ≤ 39
  | 1, p => p.1 < 115792089237316195423570985008687907853269984665640564039457584007913129639936 ∧ p.2 ≤ 1 ∧ (p.2 = 1 → p.1 < 2000)
  | 0, p => p.1 < 115792089237316195423570985008687907853269984665640564039457584007913129639936 ∧ p.2 = 0
  | _, _ => False
theorem fb_lt (k : Nat) (p : Nat × Nat) (h : fb k p) : p.1 < 115792089237316195423570985008687907853269984665640564039457584007913129639936 := by
  match k with
  | 0 => exact h.1
  | 1 => exact h.1
  | 2 => exact h.1
  | _ + 3 => exact absurd h id
theorem fb_zero (p : Nat × Nat) (h : fb 0 p) : p.2 = 0 := h.2
theorem fb_small (k : Nat) (p : Nat × Nat) (h : fb k p) : p.2 ≤ 39 := by
  match k with
  | 0 => rw [h.2]; decide
  | 1 => have := h.2.1; omega
  | 2 => exact h.2
  | _ + 3 => exact absurd h id
theorem fb_step (k : Nat) (p : Nat × Nat) (h : fb (k + 1) p) : fb k (f1 p) := by
  obtain ⟨a, b⟩ := p
  match k with
  | 0 =>
    obtain ⟨h1, h2, h3⟩ := h
    simp only at h1 h2 h3
    have : b = 0 ∨ b = 1 := by omega
    rcases this with rfl | rfl
    · rw [f1_zero a h1]; exact ⟨h1, rfl⟩
    · have := h3 rfl
      refine ⟨f1_lt _, ?_⟩
      show (a + 38 * 1) / 115792089237316195423570985008687907853269984665640564039457584007913129639936 = 0
      omega
  | 1 =>
    obtain ⟨h1, h2⟩ := h
    simp only at h1 h2
    refine ⟨f1_lt _, ?_, ?_⟩
    · show (a + 38 * b) / 115792089237316195423570985008687907853269984665640564039457584007913129639936 ≤ 1
      omega
    · show (a + 38 * b) / 115792089237316195423570985008687907853269984665640564039457584007913129639936 = 1 → (a + 38 * b) % 115792089237316195423570985008687907853269984665640564039457584007913129639936 < 2000
      omega
  | _ + 2 => exact absurd h id
theorem fb_start (lo hi : Nat) (h1 : lo < 115792089237316195423570985008687907853269984665640564039457584007913129639936) (h2 : hi < 115792089237316195423570985008687907853269984665640564039457584007913129639936) : fb 2 (f1 (lo, hi)) := by
  refine ⟨f1_lt _, ?_⟩
  show (lo + 38 * hi) / 115792089237316195423570985008687907853269984665640564039457584007913129639936 ≤ 39
  omega
theorem fk_mod : ∀ (k : Nat) (p : Nat × Nat), fb k p → fk k p % 57896044618658097711785492504343953926634992332820282019728792003956564819949 = (p.1 + 115792089237316195423570985008687907853269984665640564039457584007913129639936 * p.2) % 57896044618658097711785492504343953926634992332820282019728792003956564819949
  | 0, p, h => by rw [fb_zero p h, Nat.mul_zero, Nat.add_zero]; rfl
  | k + 1, p, h => by rw [fk, fk_mod k _ (fb_step k p h), f1_mod]
theorem fo_mod (lo hi : Nat) (h1 : lo < 115792089237316195423570985008687907853269984665640564039457584007913129639936) (h2 : hi < 115792089237316195423570985008687907853269984665640564039457584007913129639936) : fo lo hi % 57896044618658097711785492504343953926634992332820282019728792003956564819949 = (lo + 115792089237316195423570985008687907853269984665640564039457584007913129639936 * hi) % 57896044618658097711785492504343953926634992332820282019728792003956564819949 := by
  unfold fo
  rw [fk_mod 2 _ (fb_start lo hi h1 h2), f1_mod]
/-- The product, folded. -/
def mu (n m : Nat) : Nat := fo (n * m % 115792089237316195423570985008687907853269984665640564039457584007913129639936) (n * m / 115792089237316195423570985008687907853269984665640564039457584007913129639936)
theorem mu_lt (n m : Nat) : mu n m < 115792089237316195423570985008687907853269984665640564039457584007913129639936 := fo_lt _ _
theorem mu_mod (n m : Nat) (hn : n < 115792089237316195423570985008687907853269984665640564039457584007913129639936) (hm : m < 115792089237316195423570985008687907853269984665640564039457584007913129639936) : mu n m % 57896044618658097711785492504343953926634992332820282019728792003956564819949 = n * m % 57896044618658097711785492504343953926634992332820282019728792003956564819949 := by
  unfold mu
  rw [fo_mod _ _ (Nat.mod_lt _ (by decide)) ?_, Nat.mod_add_div]
  exact (Nat.div_lt_iff_lt_mul (by decide)).2 (Nat.mul_lt_mul'' hn hm)
/-- The product's words: those done so far, nought behind them. -/
structure Pr (p : List Nat) (i : Nat) (x : Nat) : Prop where
  len : p.length = 8
  lt : ∀ k, p.getD k 0 < 18446744073709551616
  nought : ∀ k, i + 4 ≤ k → p.getD k 0 = 0
  val : nv p = x
theorem nv_zeros : ∀ n : Nat, nv (List.replicate n 0) = 0
  | 0 => rfl
  | n + 1 => by rw [List.replicate_succ, nv, nv_zeros n]
theorem zer_get (n k : Nat) : (List.replicate n 0).getD k 0 = 0 := by
  rw [List.getD_eq_getElem?_getD, List.getElem?_replicate]
  split <;> rfl
theorem pr0 : Pr (List.replicate 8 0) 0 0 := ⟨rfl, fun k => by rw [zer_get]; decide, fun k _ => zer_get 8 k, nv_zeros 8⟩
theorem getD_set (p : List Nat) (i k x : Nat) (hi : i < p.length) : (p.set i x).getD k 0 = if i = k then x else p.getD k 0 := by
  simp only [List.getD_eq_getElem?_getD, List.getElem?_set]
  by_cases h : i = k
  · subst h; simp [hi]
  · simp [h]
/-- One word's product goes in: p holds 'acc' less what goes over. -/
structure Pj (p : List Nat) (i j c : Nat) (x : Nat) : Prop where
  len : p.length = 8
  lt : ∀ k, p.getD k 0 < 18446744073709551616
  nought : ∀ k, i + 4 ≤ k → p.getD k 0 = 0
  over : c < 18446744073709551616
  val : nv p + 18446744073709551616 ^ (i + j) * c = x
theorem Pj.start {p : List Nat} {i x : Nat} (h : Pr p i x) (i' : Nat) (hi : i' = i) : Pj p i' 0 0 x := by
  subst hi
  exact ⟨h.len, h.lt, h.nought, by decide, by rw [Nat.mul_zero, Nat.add_zero]; exact h.val⟩
theorem Pj.step {p : List Nat} {i j c x a b lo hi : Nat} (h : Pj p i j c x) (hi4 : i < 4) (hj : j < 4) (hl : lo < 18446744073709551616) (hh : hi < 18446744073709551616) (he : a * b + p.getD (i + j) 0 + c = lo + 18446744073709551616 * hi) :
    Pj (p.set (i + j) lo) i (j + 1) hi (x + 18446744073709551616 ^ (i + j) * (a * b)) := by
  have hlt : i + j < p.length := by rw [h.len]; omega
  refine ⟨by rw [List.length_set]; exact h.len, fun k => ?_, fun k hk => ?_, hh, ?_⟩
  · rw [getD_set _ _ _ _ hlt]; split
    · exact hl
    · exact h.lt k
  · rw [getD_set _ _ _ _ hlt, if_neg (by omega)]; exact h.nought k hk
  · have e1 := nv_set p (i + j) lo hlt
    have e2 := h.val
    rw [← e2, ← Nat.add_assoc i j 1, Nat.pow_succ]
    generalize nv (p.set (i + j) lo) = A at e1 ⊢
    generalize nv p = B at e1 ⊢
    generalize p.getD (i + j) 0 = o at e1 he
    generalize 18446744073709551616 ^ (i + j) = K at e1 ⊢
    have e3 : K * (a * b) + K * o + K * c = K * lo + K * 18446744073709551616 * hi := by
      rw [Nat.mul_assoc K, ← Nat.mul_add, ← Nat.mul_add, ← Nat.mul_add, he]
    omega
theorem Pj.done {p : List Nat} {i c x : Nat} (h : Pj p i 4 c x) (hi4 : i < 4) : Pr (p.set (i + 4) c) (i + 1) x := by
  have hlt : i + 4 < p.length := by rw [h.len]; omega
  refine ⟨by rw [List.length_set]; exact h.len, fun k => ?_, fun k hk => ?_, ?_⟩
  · rw [getD_set _ _ _ _ hlt]; split
    · exact h.over
    · exact h.lt k
  · rw [getD_set _ _ _ _ hlt, if_neg (by omega)]; exact h.nought k (by omega)
  · have e1 := nv_set p (i + 4) c hlt
    rw [h.nought (i + 4) (Nat.le_refl _), Nat.mul_zero, Nat.add_zero] at e1
    rw [e1]; exact h.val
theorem pr_next (n m i : Nat) : n % 18446744073709551616 ^ i * m + 18446744073709551616 ^ i * (wd n i * m) = n % 18446744073709551616 ^ (i + 1) * m := by
  rw [wd_step n i, Nat.add_mul, Nat.mul_assoc]
theorem pj_next (y m j K x : Nat) : x + K * (y * (m % 18446744073709551616 ^ j)) + K * 18446744073709551616 ^ j * (y * wd m j) = x + K * (y * (m % 18446744073709551616 ^ (j + 1))) := by
  rw [wd_step m j, Nat.mul_add, Nat.mul_add]
  have : K * 18446744073709551616 ^ j * (y * wd m j) = K * (y * (18446744073709551616 ^ j * wd m j)) := by
    rw [Nat.mul_assoc, Nat.mul_left_comm (18446744073709551616 ^ j)]
  rw [this, Nat.add_assoc]
end Go.Proofs.YtlpchgoaoglhcaaDoor
