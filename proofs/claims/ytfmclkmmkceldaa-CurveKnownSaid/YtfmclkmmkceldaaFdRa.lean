/-
  The document's words: rest, over, sub, add.
  Conditions: none.
-/
import Derived.Test.YtfmclkmmkceldaaFdK
namespace Go.Proofs.Ytfmclkmmkceldaa
open Go.RowKit

theorem run_allocR (a : Act) (o : Oper) (ho : o.op = .alloc 86) (w : World) : (execOp a.eval o).run Try.prog w = .ok (.value (.pointer (some ⟨w.heap.size, 0, none⟩))) (w.alloc (.cells (nums .u64 (zer 4)) 86)) := by
  have hz := zR
  unfold execOp
  simp only [ho]
  simp [go_sem, Instr.alloc, hz, Value.cells]
set_option maxRecDepth 100000 in
set_option maxHeartbeats 1000000 in
theorem restR_any (n : Nat) (w : World) (hn : n < 115792089237316195423570985008687907853269984665640564039457584007913129639936) :
    Calls Try.prog 83 #[.agg (nums .u64 (w4 n))] w fun e w' => e = .returned (.agg (nums .u64 (w4 (n % 57896044618658097711785492504343953926634992332820282019728792003956564819949)))) ∧ Below w.heap.size w w' := by
  have HNN := Lib.hid hn
  have hz := zR
  clear hn
  go_enter Try.func83, Try.ntmps83
  go_upto_region 1 with fail
  generalize hW1 : World.alloc _ _ = W1
  obtain ⟨N, hN⟩ : ∃ n, w.heap.size = n := ⟨_, rfl⟩
  have HR1 := Lib.hid (show RW W1 N .u64 86 (w4 n) by subst hW1; rw [← hN]; exact (alloc2_at w _ _).1)
  have HR2 := Lib.hid (show RW W1 (N + 1) .u64 86 (zer 4) by subst hW1; rw [← hN]; exact (alloc2_at w _ _).2)
  have HB1 := Lib.hid (show Below N w W1 by subst hW1; rw [← hN]; exact ((Below.refl _ w).alloc (Nat.le_refl _) _).alloc (by simp) _)
  have HN := Lib.hid hN
  rw [hN]
  clear hW1 hN
  go_wp2_with fail
  go_loopw [3] (fun iv wr => ∃ (k i m : Nat), iv = .int .i64 k ∧ k ≤ 3 ∧ Hid (m + i * 57896044618658097711785492504343953926634992332820282019728792003956564819949 = n ∧ i ≤ k ∧ (i = k ∨ m < 57896044618658097711785492504343953926634992332820282019728792003956564819949)) ∧ RW wr N .u64 86 (w4 m) ∧ RW wr (N + 1) .u64 86 (zer 4) ∧ Below N w wr) (fun i _ => 3 - (intOf i).toNat)
  case atStart => exact ⟨0, 0, n, rfl, Nat.zero_le _, Lib.hid ⟨by omega, Nat.le_refl _, .inl rfl⟩, HR1.out, HR2.out, HB1.out⟩
  case round =>
    obtain ⟨k, i, m, rfl, hk, HM, hr1, hr2, hbel⟩ := hrel
    have HA1 := Lib.hid hr1
    have HA2 := Lib.hid hr2
    have HBE := Lib.hid hbel
    have HS := Lib.hid (sR m)
    have HMN := Lib.hid (show m < 115792089237316195423570985008687907853269984665640564039457584007913129639936 by have := HM.out.1; have := HNN.out; omega)
    clear hr1 hr2 hbel HR1 HR2 HB1
    by_cases hlt : k < 3
    · have hlt' : (k : Int) < 3 := by omega
      by_cases hlp : m < 57896044618658097711785492504343953926634992332820282019728792003956564819949
      · have HML := Lib.hid hlp
        obtain ⟨r, hr⟩ : ∃ r, m + 115792089237316195423570985008687907853269984665640564039457584007913129639936 - 57896044618658097711785492504343953926634992332820282019728792003956564819949 = r := ⟨_, rfl⟩
        have HQ := Lib.hid (fun w => takeR_any m 57896044618658097711785492504343953926634992332820282019728792003956564819949 r 1 w HMN.out (by decide) (by omega) (by omega) (by decide))
        have HP := Lib.hid (fun w => primeR_any w)
        have HSR := Lib.hid (sR r)
        have HNW := Lib.hid (show N + 1 < wr.heap.size from HA2.out.lt)
        clear hr hlp
        go_wp2_with fail
        refine wp_region_upA 7 5 6 [0, 1, 2, 3, 4, 5] _ (.cells (nums .u64 (zer 4)) 86) (by kernel_rfl) (by kernel_rfl) (fun _ _ dst _ _ h => by cases dst <;> exact h) rfl (fun a w K hK => wpOp_of_run rfl rfl (run_allocR a _ rfl w) hK) rfl ?_
        simp only [List.take_succ_cons, List.take_zero, List.drop_succ_cons, List.drop_zero, List.eraseIdx_cons_succ, List.eraseIdx_cons_zero]
        refine upW_val (by rfl) (by rfl) (by rfl) (fun K hK => quiet_load_row _ _ rfl N rfl 86 _ (0, 0) _ HA1.out Try.underlying86 rfl HS.out (hK _ ?_))
        simp only [Act.put, List.setIfInBounds_toArray, List.set]
        refine upW_call (by rfl) (by rfl) (.agg (nums .u64 (w4 57896044618658097711785492504343953926634992332820282019728792003956564819949))) _ rfl (by simp) (fun p => ?_) ?_
        · go_big_quiet_op
          exact ⟨_, fun q => Calls.ext_of (HP.out q.x), rfl⟩
        simp only [Act.put, List.setIfInBounds_toArray, List.set]
        refine upW_call (by rfl) (by rfl) (.tuple #[.agg (nums .u64 (w4 r)), .int .u64 1]) _ rfl (by simp) (fun p => ?_) ?_
        · go_big_quiet_op
          exact ⟨_, fun q => Calls.ext_of (HQ.out q.x), rfl⟩
        simp only [Act.put, List.setIfInBounds_toArray, List.set]
        refine upW_val (by rfl) (by rfl) (by rfl) ?_
        intro K hK
        go_big_quiet_op
        refine hK _ ?_
        refine upW_late (by rfl) (.agg (nums .u64 (w4 r))) (fun _ => rfl) ?_
        simp only [Act.put, List.setIfInBounds_toArray, List.set]
        refine upW_late (by rfl) (.int .u64 1) (fun _ => rfl) ?_
        simp only [Act.put, List.setIfInBounds_toArray, List.set]
        refine upW_nil (fun M wm hM hbm hom => ?_)
        simp only [List.setIfInBounds_toArray]
        have HOM := Lib.hid hom
        have HBM := Lib.hid hbm
        have hM1 : N + 1 < M := Nat.lt_of_lt_of_le HNW.out hM
        have HN1 := Lib.hid (HA1.out.ext hbm)
        have HN2 := Lib.hid (HA2.out.ext hbm)
        clear hom hbm
        go_wp2_with (refine wpList_store_row rfl 86 _ _ rfl M (nums .u64 (w4 r)) rfl rfl 86 _ HOM.out HSR.out ?hold (nums_one _ _) (Stop.out ?_))
        case hold => rw [size_nums, size_nums, zer_len]; rfl
        generalize hWS : World.setRow _ _ _ = ws
        have H1 := Lib.hid (show RW ws N .u64 86 (w4 m) by subst hWS; exact HN1.out.other (setRow_other _ _ _ _ (by omega)))
        have H2 := Lib.hid (show RW ws (N + 1) .u64 86 (zer 4) by subst hWS; exact HN2.out.other (setRow_other _ _ _ _ (by omega)))
        have H3 := Lib.hid (show RW ws M .u64 86 (w4 r) by subst hWS; exact setRow_heap _ _ _ _ _ _ HOM.out)
        have HB3 := Lib.hid (show Below N w ws by subst hWS; exact Below.setRow (HBE.out.trans (HBM.out.mono (by have := HNW.out; omega))) (by omega) _)
        clear hWS HN1 HN2 HOM HBM HA1 HA2 HBE
        refine ⟨?_⟩
        go_wp2_with fail
        go_roundw
        case rel => exact ⟨k + 1, i, m, rfl, hlt, Lib.hid ⟨HM.out.1, by have := HM.out.2.1; omega, .inr HML.out⟩, H1.out, H2.out, HB3.out⟩
        case measure => simp [intOf]; omega
      · have HIK := Lib.hid (show i = k from HM.out.2.2.resolve_right hlp)
        obtain ⟨r, hr⟩ : ∃ r, m - 57896044618658097711785492504343953926634992332820282019728792003956564819949 = r := ⟨_, rfl⟩
        have HM2 := Lib.hid (show r + (i + 1) * 57896044618658097711785492504343953926634992332820282019728792003956564819949 = n by have := HM.out.1; omega)
        have HQ := Lib.hid (fun w => takeR_any m 57896044618658097711785492504343953926634992332820282019728792003956564819949 r 0 w HMN.out (by decide) (by have := HMN.out; omega) (by omega) (by decide))
        have HP := Lib.hid (fun w => primeR_any w)
        have HSR := Lib.hid (sR r)
        have HNW := Lib.hid (show N + 1 < wr.heap.size from HA2.out.lt)
        clear hr hlp
        go_wp2_with fail
        refine wp_region_upA 7 5 6 [0, 1, 2, 3, 4, 5] _ (.cells (nums .u64 (zer 4)) 86) (by kernel_rfl) (by kernel_rfl) (fun _ _ dst _ _ h => by cases dst <;> exact h) rfl (fun a w K hK => wpOp_of_run rfl rfl (run_allocR a _ rfl w) hK) rfl ?_
        simp only [List.take_succ_cons, List.take_zero, List.drop_succ_cons, List.drop_zero, List.eraseIdx_cons_succ, List.eraseIdx_cons_zero]
        refine upW_val (by rfl) (by rfl) (by rfl) (fun K hK => quiet_load_row _ _ rfl N rfl 86 _ (0, 0) _ HA1.out Try.underlying86 rfl HS.out (hK _ ?_))
        simp only [Act.put, List.setIfInBounds_toArray, List.set]
        refine upW_call (by rfl) (by rfl) (.agg (nums .u64 (w4 57896044618658097711785492504343953926634992332820282019728792003956564819949))) _ rfl (by simp) (fun p => ?_) ?_
        · go_big_quiet_op
          exact ⟨_, fun q => Calls.ext_of (HP.out q.x), rfl⟩
        simp only [Act.put, List.setIfInBounds_toArray, List.set]
        refine upW_call (by rfl) (by rfl) (.tuple #[.agg (nums .u64 (w4 r)), .int .u64 0]) _ rfl (by simp) (fun p => ?_) ?_
        · go_big_quiet_op
          exact ⟨_, fun q => Calls.ext_of (HQ.out q.x), rfl⟩
        simp only [Act.put, List.setIfInBounds_toArray, List.set]
        refine upW_val (by rfl) (by rfl) (by rfl) ?_
        intro K hK
        go_big_quiet_op
        refine hK _ ?_
        refine upW_late (by rfl) (.agg (nums .u64 (w4 r))) (fun _ => rfl) ?_
        simp only [Act.put, List.setIfInBounds_toArray, List.set]
        refine upW_late (by rfl) (.int .u64 0) (fun _ => rfl) ?_
        simp only [Act.put, List.setIfInBounds_toArray, List.set]
        refine upW_nil (fun M wm hM hbm hom => ?_)
        simp only [List.setIfInBounds_toArray]
        have HOM := Lib.hid hom
        have HBM := Lib.hid hbm
        have hM1 : N + 1 < M := Nat.lt_of_lt_of_le HNW.out hM
        have HN1 := Lib.hid (HA1.out.ext hbm)
        have HN2 := Lib.hid (HA2.out.ext hbm)
        clear hom hbm
        go_wp2_with (refine wpList_store_row rfl 86 _ _ rfl M (nums .u64 (w4 r)) rfl rfl 86 _ HOM.out HSR.out ?hold (nums_one _ _) (Stop.out ?_))
        case hold => rw [size_nums, size_nums, zer_len]; rfl
        generalize hWS : World.setRow _ _ _ = ws
        have H1 := Lib.hid (show RW ws N .u64 86 (w4 m) by subst hWS; exact HN1.out.other (setRow_other _ _ _ _ (by omega)))
        have H2 := Lib.hid (show RW ws (N + 1) .u64 86 (zer 4) by subst hWS; exact HN2.out.other (setRow_other _ _ _ _ (by omega)))
        have H3 := Lib.hid (show RW ws M .u64 86 (w4 r) by subst hWS; exact setRow_heap _ _ _ _ _ _ HOM.out)
        have HB3 := Lib.hid (show Below N w ws by subst hWS; exact Below.setRow (HBE.out.trans (HBM.out.mono (by have := HNW.out; omega))) (by omega) _)
        clear hWS HN1 HN2 HOM HBM HA1 HA2 HBE
        refine ⟨?_⟩
        have HO := Lib.hid (show (nums .u64 (w4 m)).size = (nums .u64 (w4 r)).size by rw [size_nums, size_nums, w4_len, w4_len])
        go_wp2_with (first
          | (refine wpList_load_row rfl 86 _ rfl M rfl 86 (nums .u64 (w4 r)) (0, 0) _ H3.out Try.underlying86 rfl HSR.out ?_)
          | (refine wpList_store_row rfl 86 _ _ rfl N (nums .u64 (w4 r)) rfl rfl 86 _ H1.out HSR.out HO.out (nums_one _ _) ?_)
          )
        go_roundw
        case rel => exact ⟨k + 1, i + 1, r, rfl, hlt, Lib.hid ⟨HM2.out, by have := HIK.out; omega, .inl (by have := HIK.out; omega)⟩, setRow_heap _ _ _ _ _ _ H1.out, H2.out.other (setRow_other _ _ _ _ (by omega)), Below.setRow HB3.out (Nat.le_refl _) _⟩
        case measure => simp [intOf]; omega
    · have hlt' : ¬ (k : Int) < 3 := by omega
      have HRES := Lib.hid (show n % 57896044618658097711785492504343953926634992332820282019728792003956564819949 = m by
        have h := HM.out
        have hml : m < 57896044618658097711785492504343953926634992332820282019728792003956564819949 := by
          rcases h.2.2 with h1 | h1
          · have := HNN.out; omega
          · exact h1
        rw [← h.1, Nat.add_mul_mod_self_right]
        exact Nat.mod_eq_of_lt hml)
      have HO := Lib.hid (show (nums .u64 (zer 4)).size = (nums .u64 (w4 m)).size by rw [size_nums, size_nums, zer_len, w4_len])
      go_wp2_with (first
        | (refine wpList_load_row rfl 86 _ rfl N rfl 86 (nums .u64 (w4 m)) (0, 0) _ HA1.out Try.underlying86 rfl HS.out ?_)
        | (refine wpList_store_row rfl 86 _ _ rfl (N + 1) (nums .u64 (w4 m)) rfl rfl 86 _ HA2.out HS.out HO.out (nums_one _ _) ?_)
        )
      refine bodyPost_ret (results_cell_row (by rfl) _ _ (N + 1) 86 (nums .u64 (w4 m)) (0, 0) _ (by rfl) (setRow_heap _ _ _ _ _ _ HA2.out) Try.underlying86 rfl HS.out) rfl ⟨by rw [HRES.out], ?_⟩
      rw [HN.out]
      exact Below.setRow HBE.out (by omega) _
set_option maxRecDepth 100000 in
set_option maxHeartbeats 1000000 in
theorem overR_any (m0 c0 : Nat) (w : World) (h0 : fb 2 (m0, c0)) :
    Calls Try.prog 123 #[.agg (nums .u64 (w4 m0)), .int .u64 c0] w fun e w' => e = .returned (.agg (nums .u64 (w4 (fk 2 (m0, c0))))) ∧ Below w.heap.size w w' := by
  have HB0 := Lib.hid h0
  have hz := zR
  obtain ⟨F, hF⟩ : ∃ F, fk 2 (m0, c0) = F := ⟨_, rfl⟩
  have HF0 := Lib.hid hF
  rw [hF]
  clear h0 hF
  go_enter Try.func123, Try.ntmps123
  go_wp2_with fail
  generalize hW1 : World.alloc _ _ = W1
  obtain ⟨N, hN⟩ : ∃ n, w.heap.size = n := ⟨_, rfl⟩
  have HR1 := Lib.hid (show RW W1 N .u64 86 (w4 m0) by subst hW1; rw [← hN]; exact (alloc2_at w _ _).1)
  have HR2 := Lib.hid (show RW W1 (N + 1) .u64 86 (zer 4) by subst hW1; rw [← hN]; exact (alloc2_at w _ _).2)
  have HB1 := Lib.hid (show Below N w W1 by subst hW1; rw [← hN]; exact ((Below.refl _ w).alloc (Nat.le_refl _) _).alloc (by simp) _)
  have HN := Lib.hid hN
  rw [hN]
  clear hW1 hN
  go_loopg [1] 2 (fun gk cv wr => ∃ m c : Nat, cv = .int .u64 (c : Int) ∧ fb gk (m, c) ∧ fk gk (m, c) = F ∧ RW wr N .u64 86 (w4 m) ∧ RW wr (N + 1) .u64 86 (zer 4) ∧ Below N w wr)
  case atStart => exact ⟨m0, c0, rfl, HB0.out, HF0.out, HR1.out, HR2.out, HB1.out⟩
  case round =>
    obtain ⟨m, c, rfl, hfb, hfk, hr1, hr2, hbel⟩ := hrel
    have HFB := Lib.hid hfb
    have HFK := Lib.hid hfk
    have HA1 := Lib.hid hr1
    have HA2 := Lib.hid hr2
    have HBE := Lib.hid hbel
    have HSM := Lib.hid (sR m)
    clear hfb hfk hr1 hr2 hbel HR1 HR2 HB1
    by_cases hc0 : c = 0
    · subst hc0
      have HR := Lib.hid (show F = m by rw [← HFK.out]; exact fk_zero m (fb_lt _ _ HFB.out) gk)
      have HO := Lib.hid (show (nums .u64 (zer 4)).size = (nums .u64 (w4 m)).size by rw [size_nums, size_nums, zer_len, w4_len])
      go_wp2_with (first
        | (refine wpList_load_row rfl 86 _ rfl N rfl 86 (nums .u64 (w4 m)) (0, 0) _ HA1.out Try.underlying86 rfl HSM.out ?_)
        | (refine wpList_store_row rfl 86 _ _ rfl (N + 1) (nums .u64 (w4 m)) rfl rfl 86 _ HA2.out HSM.out HO.out (nums_one _ _) ?_)
        )
      refine bodyPost_ret (results_cell_row (by rfl) _ _ (N + 1) 86 (nums .u64 (w4 m)) (0, 0) _ (by rfl) (setRow_heap _ _ _ _ _ _ HA2.out) Try.underlying86 rfl HSM.out) rfl ⟨by rw [HR.out], ?_⟩
      rw [HN.out]
      exact Below.setRow HBE.out (by omega) _
    · have hc1 : (0 : Int) < (c : Int) := by omega
      obtain ⟨gk', rfl⟩ : ∃ g, gk = g + 1 := by
        cases gk with
        | zero => exact absurd (fb_zero _ HFB.out) hc0
        | succ g => exact ⟨g, rfl⟩
      have HC39 := Lib.hid (fb_small _ _ HFB.out)
      have HF1 := Lib.hid (fb_step _ _ HFB.out)
      have HF2 := Lib.hid (show fk gk' (f1 (m, c)) = F from HFK.out)
      obtain ⟨y, hy⟩ : ∃ y, 38 * c = y := ⟨_, rfl⟩
      have hyl : y < 18446744073709551616 := by have := HC39.out; omega
      have HML := Lib.hid (fun w => mul64_any c 38 (by have := HC39.out; omega) (by decide) w)
      rw [show c * 38 = y by omega, show y / 18446744073709551616 = 0 by omega, show y % 18446744073709551616 = y by omega] at HML
      obtain ⟨r, hr⟩ : ∃ r, (f1 (m, c)).1 = r := ⟨_, rfl⟩
      obtain ⟨c', hc'⟩ : ∃ r, (f1 (m, c)).2 = r := ⟨_, rfl⟩
      have hf1 : f1 (m, c) = (r, c') := by rw [← hr, ← hc']
      rw [hf1] at HF1 HF2
      have hsum : m + y = r + 115792089237316195423570985008687907853269984665640564039457584007913129639936 * c' := by rw [← hr, ← hc', ← hy]; exact (Nat.mod_add_div _ _).symm
      have hrl : r < 115792089237316195423570985008687907853269984665640564039457584007913129639936 := by rw [← hr]; exact f1_lt _
      have hml := fb_lt _ _ HFB.out
      have HPL := Lib.hid (fun w => plusR_any m y r c' w hml (by omega) hrl hsum)
      rw [show w4 y = [y, 0, 0, 0] from w4_of y 0 0 0 y hyl (by decide) (by decide) (by decide) (by omega)] at HPL
      have HSR := Lib.hid (sR r)
      have HO := Lib.hid (show (nums .u64 (w4 m)).size = (nums .u64 (w4 r)).size by rw [size_nums, size_nums, w4_len, w4_len])
      clear hy hyl hr hc' hf1 hsum hrl hml
      go_wp2_with fail
      refine (HML.out _).mono ?_
      rintro e wm ⟨rfl, hwm⟩
      rw [hwm]
      go_wp2_with (first
        | (refine wpList_load_row rfl 86 _ rfl N rfl 86 (nums .u64 (w4 m)) (0, 0) _ HA1.out Try.underlying86 rfl HSM.out ?_)
        | (refine wpList_build' rfl 86 _ rfl (nums .u64 [y, 0, 0, 0]) (by kernel_rfl) ?_))
      refine (HPL.out _).mono ?_
      rintro e w2 ⟨rfl, hb2⟩
      have HY1 := Lib.hid (HA1.out.ext hb2)
      have HY2 := Lib.hid (HA2.out.ext hb2)
      have HYB := Lib.hid (HBE.out.trans (hb2.mono (show N ≤ wr.heap.size by have := HA2.out.lt; omega)))
      clear hb2
      go_wp2_with (refine wpList_store_row rfl 86 _ _ rfl N (nums .u64 (w4 r)) rfl rfl 86 _ HY1.out HSR.out HO.out (nums_one _ _) ?_)
      go_roundg gk'
      case measure => omega
      case rel => exact ⟨r, c', rfl, HF1.out, HF2.out, setRow_heap _ _ _ _ _ _ HY1.out, HY2.out.other (setRow_other _ _ _ _ (by omega)), Below.setRow HYB.out (Nat.le_refl _) _⟩
end Go.Proofs.Ytfmclkmmkceldaa
