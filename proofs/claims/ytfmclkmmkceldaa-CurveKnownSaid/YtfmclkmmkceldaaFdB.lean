/-
  Sums and differences of four words, with what goes over: package field's and the document's.
  Conditions: none.
-/
import Derived.Test.YtfmclkmmkceldaaFdA
import Derived.Test.YtfmclkmmkceldaaFdQ
namespace Go.Proofs.Ytfmclkmmkceldaa
open Go.RowKit

theorem zC (w : World) : (zeroValue 70).run Try.prog w = .ok (.agg (nums .u64 (zer 4))) w :=
  (zero_of_info (P := Try.prog) (t := 70) (v := .agg (nums .u64 (zer 4))) (n := 4) (by kernel_rfl)).1 w
theorem sC (n : Nat) : (Try.prog.info? 70).map (·.size) = some (nums .u64 (w4 n)).size := by rw [size_nums, w4_len]; kernel_rfl
theorem zR (w : World) : (zeroValue 86).run Try.prog w = .ok (.agg (nums .u64 (zer 4))) w :=
  (zero_of_info (P := Try.prog) (t := 86) (v := .agg (nums .u64 (zer 4))) (n := 4) (by kernel_rfl)).1 w
theorem sR (n : Nat) : (Try.prog.info? 86).map (·.size) = some (nums .u64 (w4 n)).size := by rw [size_nums, w4_len]; kernel_rfl
set_option maxRecDepth 100000 in
set_option maxHeartbeats 1000000 in
theorem plusC_any (n m r c : Nat) (w : World) (hn : n < 115792089237316195423570985008687907853269984665640564039457584007913129639936) (hm : m < 115792089237316195423570985008687907853269984665640564039457584007913129639936) (hr : r < 115792089237316195423570985008687907853269984665640564039457584007913129639936) (h : n + m = r + 115792089237316195423570985008687907853269984665640564039457584007913129639936 * c) :
    Calls Try.prog 88 #[.agg (nums .u64 (w4 n)), .agg (nums .u64 (w4 m))] w fun e w' => e = .returned (.tuple #[.agg (nums .u64 (w4 r)), .int .u64 (c : Int)]) ∧ Below w.heap.size w w' := by
  have hf := add_fin n m hn hm
  have HF := Lib.hid (show (List.range 4).map (ads (w4 n) (w4 m)) = w4 r ∧ adc (w4 n) (w4 m) 4 = c by
    rw [hf.1, hf.2]; exact ⟨congrArg w4 (by omega), by omega⟩)
  have hz := zC
  clear hn hm hf hr h
  go_enter Try.func88, Try.ntmps88
  go_wp2_with fail
  generalize hW1 : World.alloc _ _ = W1
  obtain ⟨N, hN⟩ : ∃ n, w.heap.size = n := ⟨_, rfl⟩
  have HR1 := Lib.hid (show RW W1 N .u64 70 ((List.range 0).map (ads (w4 n) (w4 m)) ++ (w4 n).drop 0) by subst hW1; rw [← hN]; exact (alloc3_at w _ _ _).1)
  have HR2 := Lib.hid (show RW W1 (N + 1) .u64 70 (w4 m) by subst hW1; rw [← hN]; exact (alloc3_at w _ _ _).2.1)
  have HR3 := Lib.hid (show RW W1 (N + 1 + 1) .u64 70 (zer 4) by subst hW1; rw [← hN]; exact (alloc3_at w _ _ _).2.2)
  have HB1 := Lib.hid (show Below N w W1 by subst hW1; rw [← hN]; exact Below.alloc3 w _ _ _)
  have HN := Lib.hid hN
  rw [hN]
  clear hW1 hN hz
  go_loopw [6, 8] (fun cv iv wr => ∃ (k : Nat), iv = .int .i64 k ∧ cv = .int .u64 ((adc (w4 n) (w4 m) k : Nat) : Int) ∧ k ≤ 4 ∧ RW wr N .u64 70 ((List.range k).map (ads (w4 n) (w4 m)) ++ (w4 n).drop k) ∧ RW wr (N + 1) .u64 70 (w4 m) ∧ RW wr (N + 1 + 1) .u64 70 (zer 4) ∧ Below N w wr) (fun _ i _ => 4 - (intOf i).toNat)
  case atStart => exact ⟨0, rfl, rfl, Nat.zero_le _, HR1.out, HR2.out, HR3.out, HB1.out⟩
  case round =>
    obtain ⟨k, rfl, rfl, hk, hr1, hr2, hr3, hbel⟩ := hrel
    have HA1 := Lib.hid hr1
    have HA2 := Lib.hid hr2
    have HA3 := Lib.hid hr3
    have HBE := Lib.hid hbel
    clear hr1 hr2 hr3 hbel HR1 HR2 HR3 HB1
    by_cases hlt : k < 4
    · have hlt' : (k : Int) < 4 := by omega
      have c1 := HA1.out.cell (i := k) (by rw [fillw_len _ _ _ (w4_len n) hk]; exact hlt)
      rw [fillw_get] at c1
      have c2 := HA2.out.cell (i := k) (by rw [w4_len]; exact hlt)
      have hC := adc_le (w4 n) (w4 m) (w4_lt n) (w4_lt m) k
      have HA := Lib.hid (fun w => add64 ((w4 n).getD k 0) ((w4 m).getD k 0) (adc (w4 n) (w4 m) k) (ads (w4 n) (w4 m) k) (adc (w4 n) (w4 m) (k + 1)) hC (by simp only [ads, adc]; omega) (Nat.mod_lt _ (by decide)) w)
      have HS := Lib.hid (fillw (ads (w4 n) (w4 m)) (w4 n) k (w4_len n) hlt)
      obtain ⟨s, hs⟩ : ∃ s, ads (w4 n) (w4 m) k = s := ⟨_, rfl⟩
      obtain ⟨c', hcc⟩ : ∃ s, adc (w4 n) (w4 m) (k + 1) = s := ⟨_, rfl⟩
      obtain ⟨x, hx⟩ : ∃ s, (w4 n).getD k 0 = s := ⟨_, rfl⟩
      obtain ⟨y, hy⟩ : ∃ s, (w4 m).getD k 0 = s := ⟨_, rfl⟩
      rw [hs, hcc, hx, hy] at HA
      rw [hs] at HS
      rw [hx] at c1
      rw [hy] at c2
      generalize adc (w4 n) (w4 m) k = c0 at HA
      have HCC := Lib.hid hcc
      have ha := HA.out
      have f1 := HA1.out.frozen k
      clear hC hs hcc hx hy
      go_wp2_with fail
      go_region
      go_wp2
      go_roundw
      case rel => exact ⟨k + 1, rfl, by rw [HCC.out], hlt, by rw [← HS.out]; exact HA1.out.set s, HA2.out.other (setCell_other _ (by omega)), HA3.out.other (setCell_other _ (by omega)), (HBE.out.setCell (p := ⟨N, k, none⟩) (Nat.le_refl _) _).drew⟩
      case measure => simp [intOf]; omega
    · have hlt' : ¬ (k : Int) < 4 := by omega
      have h1 := HA1.out
      rw [show k = 4 by omega, HF.out.1, List.drop_eq_nil_of_le (by rw [w4_len]; exact Nat.le_refl _), List.append_nil] at h1
      have H1 := Lib.hid h1
      have HC := Lib.hid (show adc (w4 n) (w4 m) k = c by rw [show k = 4 by omega]; exact HF.out.2)
      have HSZ := Lib.hid (sC r)
      have HO := Lib.hid (show (nums .u64 (zer 4)).size = (nums .u64 (w4 r)).size by rw [size_nums, size_nums, zer_len, w4_len])
      clear h1 HA1 HF
      go_wp2_with (first | (refine wpList_load_row rfl 70 _ rfl N rfl 70 _ (0, 0) _ H1.out Try.underlying70 rfl HSZ.out ?_) | (refine wpList_store_row rfl 70 _ _ rfl (N + 1 + 1) (nums .u64 (w4 r)) rfl rfl 70 _ HA3.out HSZ.out HO.out (nums_one _ _) ?_))
      refine bodyPost_ret (results_cell_slot (p := 4) (q := 5) (by rfl) _ _ (N + 1 + 1) 70 (nums .u64 (w4 r)) (0, 0) _ (.int .u64 (c : Int)) (by rfl) (setRow_heap _ _ _ _ _ _ HA3.out) Try.underlying70 rfl HSZ.out (congrArg (fun z : Nat => Value.int .u64 (z : Int)) HC.out)) rfl ⟨rfl, ?_⟩
      rw [HN.out]
      exact Below.setRow HBE.out (by omega) _
set_option maxRecDepth 100000 in
set_option maxHeartbeats 1000000 in
theorem plusR_any (n m r c : Nat) (w : World) (hn : n < 115792089237316195423570985008687907853269984665640564039457584007913129639936) (hm : m < 115792089237316195423570985008687907853269984665640564039457584007913129639936) (hr : r < 115792089237316195423570985008687907853269984665640564039457584007913129639936) (h : n + m = r + 115792089237316195423570985008687907853269984665640564039457584007913129639936 * c) :
    Calls Try.prog 105 #[.agg (nums .u64 (w4 n)), .agg (nums .u64 (w4 m))] w fun e w' => e = .returned (.tuple #[.agg (nums .u64 (w4 r)), .int .u64 (c : Int)]) ∧ Below w.heap.size w w' := by
  have hf := add_fin n m hn hm
  have HF := Lib.hid (show (List.range 4).map (ads (w4 n) (w4 m)) = w4 r ∧ adc (w4 n) (w4 m) 4 = c by
    rw [hf.1, hf.2]; exact ⟨congrArg w4 (by omega), by omega⟩)
  have hz := zR
  clear hn hm hf hr h
  go_enter Try.func105, Try.ntmps105
  go_wp2_with fail
  generalize hW1 : World.alloc _ _ = W1
  obtain ⟨N, hN⟩ : ∃ n, w.heap.size = n := ⟨_, rfl⟩
  have HR1 := Lib.hid (show RW W1 N .u64 86 ((List.range 0).map (ads (w4 n) (w4 m)) ++ (w4 n).drop 0) by subst hW1; rw [← hN]; exact (alloc3_at w _ _ _).1)
  have HR2 := Lib.hid (show RW W1 (N + 1) .u64 86 (w4 m) by subst hW1; rw [← hN]; exact (alloc3_at w _ _ _).2.1)
  have HR3 := Lib.hid (show RW W1 (N + 1 + 1) .u64 86 (zer 4) by subst hW1; rw [← hN]; exact (alloc3_at w _ _ _).2.2)
  have HB1 := Lib.hid (show Below N w W1 by subst hW1; rw [← hN]; exact Below.alloc3 w _ _ _)
  have HN := Lib.hid hN
  rw [hN]
  clear hW1 hN hz
  go_loopw [6, 7] (fun cv iv wr => ∃ (k : Nat), iv = .int .i64 k ∧ cv = .int .u64 ((adc (w4 n) (w4 m) k : Nat) : Int) ∧ k ≤ 4 ∧ RW wr N .u64 86 ((List.range k).map (ads (w4 n) (w4 m)) ++ (w4 n).drop k) ∧ RW wr (N + 1) .u64 86 (w4 m) ∧ RW wr (N + 1 + 1) .u64 86 (zer 4) ∧ Below N w wr) (fun _ i _ => 4 - (intOf i).toNat)
  case atStart => exact ⟨0, rfl, rfl, Nat.zero_le _, HR1.out, HR2.out, HR3.out, HB1.out⟩
  case round =>
    obtain ⟨k, rfl, rfl, hk, hr1, hr2, hr3, hbel⟩ := hrel
    have HA1 := Lib.hid hr1
    have HA2 := Lib.hid hr2
    have HA3 := Lib.hid hr3
    have HBE := Lib.hid hbel
    clear hr1 hr2 hr3 hbel HR1 HR2 HR3 HB1
    by_cases hlt : k < 4
    · have hlt' : (k : Int) < 4 := by omega
      have c1 := HA1.out.cell (i := k) (by rw [fillw_len _ _ _ (w4_len n) hk]; exact hlt)
      rw [fillw_get] at c1
      have c2 := HA2.out.cell (i := k) (by rw [w4_len]; exact hlt)
      have hC := adc_le (w4 n) (w4 m) (w4_lt n) (w4_lt m) k
      have HA := Lib.hid (fun w => add64 ((w4 n).getD k 0) ((w4 m).getD k 0) (adc (w4 n) (w4 m) k) (ads (w4 n) (w4 m) k) (adc (w4 n) (w4 m) (k + 1)) hC (by simp only [ads, adc]; omega) (Nat.mod_lt _ (by decide)) w)
      have HS := Lib.hid (fillw (ads (w4 n) (w4 m)) (w4 n) k (w4_len n) hlt)
      obtain ⟨s, hs⟩ : ∃ s, ads (w4 n) (w4 m) k = s := ⟨_, rfl⟩
      obtain ⟨c', hcc⟩ : ∃ s, adc (w4 n) (w4 m) (k + 1) = s := ⟨_, rfl⟩
      obtain ⟨x, hx⟩ : ∃ s, (w4 n).getD k 0 = s := ⟨_, rfl⟩
      obtain ⟨y, hy⟩ : ∃ s, (w4 m).getD k 0 = s := ⟨_, rfl⟩
      rw [hs, hcc, hx, hy] at HA
      rw [hs] at HS
      rw [hx] at c1
      rw [hy] at c2
      generalize adc (w4 n) (w4 m) k = c0 at HA
      have HCC := Lib.hid hcc
      have ha := HA.out
      have f1 := HA1.out.frozen k
      clear hC hs hcc hx hy
      go_wp2_with fail
      go_region
      go_wp2
      go_roundw
      case rel => exact ⟨k + 1, rfl, by rw [HCC.out], hlt, by rw [← HS.out]; exact HA1.out.set s, HA2.out.other (setCell_other _ (by omega)), HA3.out.other (setCell_other _ (by omega)), (HBE.out.setCell (p := ⟨N, k, none⟩) (Nat.le_refl _) _).drew⟩
      case measure => simp [intOf]; omega
    · have hlt' : ¬ (k : Int) < 4 := by omega
      have h1 := HA1.out
      rw [show k = 4 by omega, HF.out.1, List.drop_eq_nil_of_le (by rw [w4_len]; exact Nat.le_refl _), List.append_nil] at h1
      have H1 := Lib.hid h1
      have HC := Lib.hid (show adc (w4 n) (w4 m) k = c by rw [show k = 4 by omega]; exact HF.out.2)
      have HSZ := Lib.hid (sR r)
      have HO := Lib.hid (show (nums .u64 (zer 4)).size = (nums .u64 (w4 r)).size by rw [size_nums, size_nums, zer_len, w4_len])
      clear h1 HA1 HF
      go_wp2_with (first | (refine wpList_load_row rfl 86 _ rfl N rfl 86 _ (0, 0) _ H1.out Try.underlying86 rfl HSZ.out ?_) | (refine wpList_store_row rfl 86 _ _ rfl (N + 1 + 1) (nums .u64 (w4 r)) rfl rfl 86 _ HA3.out HSZ.out HO.out (nums_one _ _) ?_))
      refine bodyPost_ret (results_cell_slot (p := 4) (q := 5) (by rfl) _ _ (N + 1 + 1) 86 (nums .u64 (w4 r)) (0, 0) _ (.int .u64 (c : Int)) (by rfl) (setRow_heap _ _ _ _ _ _ HA3.out) Try.underlying86 rfl HSZ.out (congrArg (fun z : Nat => Value.int .u64 (z : Int)) HC.out)) rfl ⟨rfl, ?_⟩
      rw [HN.out]
      exact Below.setRow HBE.out (by omega) _
set_option maxRecDepth 100000 in
set_option maxHeartbeats 1000000 in
theorem takeC_any (n m r c : Nat) (w : World) (hn : n < 115792089237316195423570985008687907853269984665640564039457584007913129639936) (hm : m < 115792089237316195423570985008687907853269984665640564039457584007913129639936) (hr : r < 115792089237316195423570985008687907853269984665640564039457584007913129639936) (h : n + 115792089237316195423570985008687907853269984665640564039457584007913129639936 * c = r + m) (hc : c ≤ 1) :
    Calls Try.prog 109 #[.agg (nums .u64 (w4 n)), .agg (nums .u64 (w4 m))] w fun e w' => e = .returned (.tuple #[.agg (nums .u64 (w4 r)), .int .u64 (c : Int)]) ∧ Below w.heap.size w w' := by
  have hf := sub_fin n m hn hm
  have HF := Lib.hid (show (List.range 4).map (sbs (w4 n) (w4 m)) = w4 r ∧ sbb (w4 n) (w4 m) 4 = c by
    obtain ⟨e1, e2⟩ := sub_end n m r c hn hm h hr hc; rw [hf.1, hf.2, e1, e2]; exact ⟨rfl, rfl⟩)
  have hz := zC
  clear hn hm hf hr h hc
  go_enter Try.func109, Try.ntmps109
  go_wp2_with fail
  generalize hW1 : World.alloc _ _ = W1
  obtain ⟨N, hN⟩ : ∃ n, w.heap.size = n := ⟨_, rfl⟩
  have HR1 := Lib.hid (show RW W1 N .u64 70 ((List.range 0).map (sbs (w4 n) (w4 m)) ++ (w4 n).drop 0) by subst hW1; rw [← hN]; exact (alloc3_at w _ _ _).1)
  have HR2 := Lib.hid (show RW W1 (N + 1) .u64 70 (w4 m) by subst hW1; rw [← hN]; exact (alloc3_at w _ _ _).2.1)
  have HR3 := Lib.hid (show RW W1 (N + 1 + 1) .u64 70 (zer 4) by subst hW1; rw [← hN]; exact (alloc3_at w _ _ _).2.2)
  have HB1 := Lib.hid (show Below N w W1 by subst hW1; rw [← hN]; exact Below.alloc3 w _ _ _)
  have HN := Lib.hid hN
  rw [hN]
  clear hW1 hN hz
  go_loopw [6, 8] (fun cv iv wr => ∃ (k : Nat), iv = .int .i64 k ∧ cv = .int .u64 ((sbb (w4 n) (w4 m) k : Nat) : Int) ∧ k ≤ 4 ∧ RW wr N .u64 70 ((List.range k).map (sbs (w4 n) (w4 m)) ++ (w4 n).drop k) ∧ RW wr (N + 1) .u64 70 (w4 m) ∧ RW wr (N + 1 + 1) .u64 70 (zer 4) ∧ Below N w wr) (fun _ i _ => 4 - (intOf i).toNat)
  case atStart => exact ⟨0, rfl, rfl, Nat.zero_le _, HR1.out, HR2.out, HR3.out, HB1.out⟩
  case round =>
    obtain ⟨k, rfl, rfl, hk, hr1, hr2, hr3, hbel⟩ := hrel
    have HA1 := Lib.hid hr1
    have HA2 := Lib.hid hr2
    have HA3 := Lib.hid hr3
    have HBE := Lib.hid hbel
    clear hr1 hr2 hr3 hbel HR1 HR2 HR3 HB1
    by_cases hlt : k < 4
    · have hlt' : (k : Int) < 4 := by omega
      have c1 := HA1.out.cell (i := k) (by rw [fillw_len _ _ _ (w4_len n) hk]; exact hlt)
      rw [fillw_get] at c1
      have c2 := HA2.out.cell (i := k) (by rw [w4_len]; exact hlt)
      have hC := sbb_le (w4 n) (w4 m) k
      have HA := Lib.hid (fun w => by
        obtain ⟨h1, h2, h3⟩ := bor_step ((w4 n).getD k 0) ((w4 m).getD k 0) (sbb (w4 n) (w4 m) k) _ _ hC (w4_lt n k) (w4_lt m k) rfl rfl
        exact sub64 ((w4 n).getD k 0) ((w4 m).getD k 0) (sbb (w4 n) (w4 m) k) (sbs (w4 n) (w4 m) k) (sbb (w4 n) (w4 m) (k + 1)) hC h1 h2 (w4_lt m k) (w4_lt n k) h3 w)
      have HS := Lib.hid (fillw (sbs (w4 n) (w4 m)) (w4 n) k (w4_len n) hlt)
      obtain ⟨s, hs⟩ : ∃ s, sbs (w4 n) (w4 m) k = s := ⟨_, rfl⟩
      obtain ⟨c', hcc⟩ : ∃ s, sbb (w4 n) (w4 m) (k + 1) = s := ⟨_, rfl⟩
      obtain ⟨x, hx⟩ : ∃ s, (w4 n).getD k 0 = s := ⟨_, rfl⟩
      obtain ⟨y, hy⟩ : ∃ s, (w4 m).getD k 0 = s := ⟨_, rfl⟩
      rw [hs, hcc, hx, hy] at HA
      rw [hs] at HS
      rw [hx] at c1
      rw [hy] at c2
      generalize sbb (w4 n) (w4 m) k = c0 at HA
      have HCC := Lib.hid hcc
      have ha := HA.out
      have f1 := HA1.out.frozen k
      clear hC hs hcc hx hy
      go_wp2_with fail
      go_region
      go_wp2
      go_roundw
      case rel => exact ⟨k + 1, rfl, by rw [HCC.out], hlt, by rw [← HS.out]; exact HA1.out.set s, HA2.out.other (setCell_other _ (by omega)), HA3.out.other (setCell_other _ (by omega)), (HBE.out.setCell (p := ⟨N, k, none⟩) (Nat.le_refl _) _).drew⟩
      case measure => simp [intOf]; omega
    · have hlt' : ¬ (k : Int) < 4 := by omega
      have h1 := HA1.out
      rw [show k = 4 by omega, HF.out.1, List.drop_eq_nil_of_le (by rw [w4_len]; exact Nat.le_refl _), List.append_nil] at h1
      have H1 := Lib.hid h1
      have HC := Lib.hid (show sbb (w4 n) (w4 m) k = c by rw [show k = 4 by omega]; exact HF.out.2)
      have HSZ := Lib.hid (sC r)
      have HO := Lib.hid (show (nums .u64 (zer 4)).size = (nums .u64 (w4 r)).size by rw [size_nums, size_nums, zer_len, w4_len])
      clear h1 HA1 HF
      go_wp2_with (first | (refine wpList_load_row rfl 70 _ rfl N rfl 70 _ (0, 0) _ H1.out Try.underlying70 rfl HSZ.out ?_) | (refine wpList_store_row rfl 70 _ _ rfl (N + 1 + 1) (nums .u64 (w4 r)) rfl rfl 70 _ HA3.out HSZ.out HO.out (nums_one _ _) ?_))
      refine bodyPost_ret (results_cell_slot (p := 4) (q := 5) (by rfl) _ _ (N + 1 + 1) 70 (nums .u64 (w4 r)) (0, 0) _ (.int .u64 (c : Int)) (by rfl) (setRow_heap _ _ _ _ _ _ HA3.out) Try.underlying70 rfl HSZ.out (congrArg (fun z : Nat => Value.int .u64 (z : Int)) HC.out)) rfl ⟨rfl, ?_⟩
      rw [HN.out]
      exact Below.setRow HBE.out (by omega) _
set_option maxRecDepth 100000 in
set_option maxHeartbeats 1000000 in
theorem takeR_any (n m r c : Nat) (w : World) (hn : n < 115792089237316195423570985008687907853269984665640564039457584007913129639936) (hm : m < 115792089237316195423570985008687907853269984665640564039457584007913129639936) (hr : r < 115792089237316195423570985008687907853269984665640564039457584007913129639936) (h : n + 115792089237316195423570985008687907853269984665640564039457584007913129639936 * c = r + m) (hc : c ≤ 1) :
    Calls Try.prog 102 #[.agg (nums .u64 (w4 n)), .agg (nums .u64 (w4 m))] w fun e w' => e = .returned (.tuple #[.agg (nums .u64 (w4 r)), .int .u64 (c : Int)]) ∧ Below w.heap.size w w' := by
  have hf := sub_fin n m hn hm
  have HF := Lib.hid (show (List.range 4).map (sbs (w4 n) (w4 m)) = w4 r ∧ sbb (w4 n) (w4 m) 4 = c by
    obtain ⟨e1, e2⟩ := sub_end n m r c hn hm h hr hc; rw [hf.1, hf.2, e1, e2]; exact ⟨rfl, rfl⟩)
  have hz := zR
  clear hn hm hf hr h hc
  go_enter Try.func102, Try.ntmps102
  go_wp2_with fail
  generalize hW1 : World.alloc _ _ = W1
  obtain ⟨N, hN⟩ : ∃ n, w.heap.size = n := ⟨_, rfl⟩
  have HR1 := Lib.hid (show RW W1 N .u64 86 ((List.range 0).map (sbs (w4 n) (w4 m)) ++ (w4 n).drop 0) by subst hW1; rw [← hN]; exact (alloc3_at w _ _ _).1)
  have HR2 := Lib.hid (show RW W1 (N + 1) .u64 86 (w4 m) by subst hW1; rw [← hN]; exact (alloc3_at w _ _ _).2.1)
  have HR3 := Lib.hid (show RW W1 (N + 1 + 1) .u64 86 (zer 4) by subst hW1; rw [← hN]; exact (alloc3_at w _ _ _).2.2)
  have HB1 := Lib.hid (show Below N w W1 by subst hW1; rw [← hN]; exact Below.alloc3 w _ _ _)
  have HN := Lib.hid hN
  rw [hN]
  clear hW1 hN hz
  go_loopw [6, 7] (fun cv iv wr => ∃ (k : Nat), iv = .int .i64 k ∧ cv = .int .u64 ((sbb (w4 n) (w4 m) k : Nat) : Int) ∧ k ≤ 4 ∧ RW wr N .u64 86 ((List.range k).map (sbs (w4 n) (w4 m)) ++ (w4 n).drop k) ∧ RW wr (N + 1) .u64 86 (w4 m) ∧ RW wr (N + 1 + 1) .u64 86 (zer 4) ∧ Below N w wr) (fun _ i _ => 4 - (intOf i).toNat)
  case atStart => exact ⟨0, rfl, rfl, Nat.zero_le _, HR1.out, HR2.out, HR3.out, HB1.out⟩
  case round =>
    obtain ⟨k, rfl, rfl, hk, hr1, hr2, hr3, hbel⟩ := hrel
    have HA1 := Lib.hid hr1
    have HA2 := Lib.hid hr2
    have HA3 := Lib.hid hr3
    have HBE := Lib.hid hbel
    clear hr1 hr2 hr3 hbel HR1 HR2 HR3 HB1
    by_cases hlt : k < 4
    · have hlt' : (k : Int) < 4 := by omega
      have c1 := HA1.out.cell (i := k) (by rw [fillw_len _ _ _ (w4_len n) hk]; exact hlt)
      rw [fillw_get] at c1
      have c2 := HA2.out.cell (i := k) (by rw [w4_len]; exact hlt)
      have hC := sbb_le (w4 n) (w4 m) k
      have HA := Lib.hid (fun w => by
        obtain ⟨h1, h2, h3⟩ := bor_step ((w4 n).getD k 0) ((w4 m).getD k 0) (sbb (w4 n) (w4 m) k) _ _ hC (w4_lt n k) (w4_lt m k) rfl rfl
        exact sub64 ((w4 n).getD k 0) ((w4 m).getD k 0) (sbb (w4 n) (w4 m) k) (sbs (w4 n) (w4 m) k) (sbb (w4 n) (w4 m) (k + 1)) hC h1 h2 (w4_lt m k) (w4_lt n k) h3 w)
      have HS := Lib.hid (fillw (sbs (w4 n) (w4 m)) (w4 n) k (w4_len n) hlt)
      obtain ⟨s, hs⟩ : ∃ s, sbs (w4 n) (w4 m) k = s := ⟨_, rfl⟩
      obtain ⟨c', hcc⟩ : ∃ s, sbb (w4 n) (w4 m) (k + 1) = s := ⟨_, rfl⟩
      obtain ⟨x, hx⟩ : ∃ s, (w4 n).getD k 0 = s := ⟨_, rfl⟩
      obtain ⟨y, hy⟩ : ∃ s, (w4 m).getD k 0 = s := ⟨_, rfl⟩
      rw [hs, hcc, hx, hy] at HA
      rw [hs] at HS
      rw [hx] at c1
      rw [hy] at c2
      generalize sbb (w4 n) (w4 m) k = c0 at HA
      have HCC := Lib.hid hcc
      have ha := HA.out
      have f1 := HA1.out.frozen k
      clear hC hs hcc hx hy
      go_wp2_with fail
      go_region
      go_wp2
      go_roundw
      case rel => exact ⟨k + 1, rfl, by rw [HCC.out], hlt, by rw [← HS.out]; exact HA1.out.set s, HA2.out.other (setCell_other _ (by omega)), HA3.out.other (setCell_other _ (by omega)), (HBE.out.setCell (p := ⟨N, k, none⟩) (Nat.le_refl _) _).drew⟩
      case measure => simp [intOf]; omega
    · have hlt' : ¬ (k : Int) < 4 := by omega
      have h1 := HA1.out
      rw [show k = 4 by omega, HF.out.1, List.drop_eq_nil_of_le (by rw [w4_len]; exact Nat.le_refl _), List.append_nil] at h1
      have H1 := Lib.hid h1
      have HC := Lib.hid (show sbb (w4 n) (w4 m) k = c by rw [show k = 4 by omega]; exact HF.out.2)
      have HSZ := Lib.hid (sR r)
      have HO := Lib.hid (show (nums .u64 (zer 4)).size = (nums .u64 (w4 r)).size by rw [size_nums, size_nums, zer_len, w4_len])
      clear h1 HA1 HF
      go_wp2_with (first | (refine wpList_load_row rfl 86 _ rfl N rfl 86 _ (0, 0) _ H1.out Try.underlying86 rfl HSZ.out ?_) | (refine wpList_store_row rfl 86 _ _ rfl (N + 1 + 1) (nums .u64 (w4 r)) rfl rfl 86 _ HA3.out HSZ.out HO.out (nums_one _ _) ?_))
      refine bodyPost_ret (results_cell_slot (p := 4) (q := 5) (by rfl) _ _ (N + 1 + 1) 86 (nums .u64 (w4 r)) (0, 0) _ (.int .u64 (c : Int)) (by rfl) (setRow_heap _ _ _ _ _ _ HA3.out) Try.underlying86 rfl HSZ.out (congrArg (fun z : Nat => Value.int .u64 (z : Int)) HC.out)) rfl ⟨rfl, ?_⟩
      rw [HN.out]
      exact Below.setRow HBE.out (by omega) _
end Go.Proofs.Ytfmclkmmkceldaa
