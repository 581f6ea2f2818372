/-
  Package scalar: minus, plus of eight words, the order; the document's order.
  Conditions: none.
-/
import Derived.Test.YtfmclkmmkceldaaFdRd
import Derived.Test.YtfmclkmmkceldaaScP
namespace Go.Proofs.Ytfmclkmmkceldaa
open Go.RowKit

theorem zS (w : World) : (zeroValue 103).run Try.prog w = .ok (.agg (nums .u64 (zer 4))) w :=
  (zero_of_info (P := Try.prog) (t := 103) (v := .agg (nums .u64 (zer 4))) (n := 4) (by kernel_rfl)).1 w
theorem sS (n : Nat) : (Try.prog.info? 103).map (·.size) = some (nums .u64 (w4 n)).size := by rw [size_nums, w4_len]; kernel_rfl
theorem zV (w : World) : (zeroValue 105).run Try.prog w = .ok (.agg (nums .u64 (zer 8))) w :=
  (zero_of_info (P := Try.prog) (t := 105) (v := .agg (nums .u64 (zer 8))) (n := 8) (by kernel_rfl)).1 w
theorem sV (l : List Nat) (h : l.length = 8) : (Try.prog.info? 105).map (·.size) = some (nums .u64 l).size := by rw [size_nums, h]; kernel_rfl
theorem zM (w : World) : (zeroValue 34).run Try.prog w = .ok (.agg (byteVals (zerB 32)).toArray) w :=
  (zero_of_info (P := Try.prog) (t := 34) (v := .agg (byteVals (zerB 32)).toArray) (n := 32) (by kernel_rfl)).1 w
theorem sM (l : List UInt8) (h : l.length = 32) : (Try.prog.info? 34).map (·.size) = some (byteVals l).toArray.size := by rw [size_byteVals, h]; kernel_rfl
set_option maxRecDepth 100000 in
set_option maxHeartbeats 1000000 in
theorem minusS_any (n m r c : Nat) (w : World) (hn : n < 115792089237316195423570985008687907853269984665640564039457584007913129639936) (hm : m < 115792089237316195423570985008687907853269984665640564039457584007913129639936) (hr : r < 115792089237316195423570985008687907853269984665640564039457584007913129639936) (h : n + 115792089237316195423570985008687907853269984665640564039457584007913129639936 * c = r + m) (hc : c ≤ 1) :
    Calls Try.prog 95 #[.agg (nums .u64 (w4 n)), .agg (nums .u64 (w4 m))] w fun e w' => e = .returned (.tuple #[.agg (nums .u64 (w4 r)), .int .u64 (c : Int)]) ∧ Below w.heap.size w w' := by
  have hf := sub_fin n m hn hm
  have HF := Lib.hid (show (List.range 4).map (sbs (w4 n) (w4 m)) = w4 r ∧ sbb (w4 n) (w4 m) 4 = c by
    obtain ⟨e1, e2⟩ := sub_end n m r c hn hm h hr hc; rw [hf.1, hf.2, e1, e2]; exact ⟨rfl, rfl⟩)
  have hz := zS
  clear hn hm hf hr h hc
  go_enter Try.func95, Try.ntmps95
  go_wp2_with fail
  generalize hW1 : World.alloc _ _ = W1
  obtain ⟨N, hN⟩ : ∃ n, w.heap.size = n := ⟨_, rfl⟩
  have HR1 := Lib.hid (show RW W1 N .u64 103 ((List.range 0).map (sbs (w4 n) (w4 m)) ++ (w4 n).drop 0) by subst hW1; rw [← hN]; exact (alloc3_at w _ _ _).1)
  have HR2 := Lib.hid (show RW W1 (N + 1) .u64 103 (w4 m) by subst hW1; rw [← hN]; exact (alloc3_at w _ _ _).2.1)
  have HR3 := Lib.hid (show RW W1 (N + 1 + 1) .u64 103 (zer 4) by subst hW1; rw [← hN]; exact (alloc3_at w _ _ _).2.2)
  have HB1 := Lib.hid (show Below N w W1 by subst hW1; rw [← hN]; exact Below.alloc3 w _ _ _)
  have HN := Lib.hid hN
  rw [hN]
  clear hW1 hN hz
  go_loopw [6, 8] (fun cv iv wr => ∃ (k : Nat), iv = .int .i64 k ∧ cv = .int .u64 ((sbb (w4 n) (w4 m) k : Nat) : Int) ∧ k ≤ 4 ∧ RW wr N .u64 103 ((List.range k).map (sbs (w4 n) (w4 m)) ++ (w4 n).drop k) ∧ RW wr (N + 1) .u64 103 (w4 m) ∧ RW wr (N + 1 + 1) .u64 103 (zer 4) ∧ Below N w wr) (fun _ i _ => 4 - (intOf i).toNat)
  case atStart => exact ⟨0, rfl, rfl, Nat.zero_le _, HR1.out, HR2.out, HR3.out, HB1.out⟩
  case round =>
    obtain ⟨k, rfl, rfl, hk, hr1, hr2, hr3, hbel⟩ := hrel
    have HA1 := Lib.hid hr1
    have HA2 := Lib.hid hr2
    have HA3 := Lib.hid hr3
    have HBE := Lib.hid hbel
    clear hr1 hr2 hr3 hbel HR1 HR2 HR3 HB1
    by_cases hlt : k < 4
    · have hlt' : (k : Int) < 4 := by omega
      have c1 := HA1.out.cell (i := k) (by rw [fillw_len _ _ _ (w4_len n) hk]; exact hlt)
      rw [fillw_get] at c1
      have c2 := HA2.out.cell (i := k) (by rw [w4_len]; exact hlt)
      have hC := sbb_le (w4 n) (w4 m) k
      have HA := Lib.hid (fun w => by
        obtain ⟨h1, h2, h3⟩ := bor_step ((w4 n).getD k 0) ((w4 m).getD k 0) (sbb (w4 n) (w4 m) k) _ _ hC (w4_lt n k) (w4_lt m k) rfl rfl
        exact sub64 ((w4 n).getD k 0) ((w4 m).getD k 0) (sbb (w4 n) (w4 m) k) (sbs (w4 n) (w4 m) k) (sbb (w4 n) (w4 m) (k + 1)) hC h1 h2 (w4_lt m k) (w4_lt n k) h3 w)
      have HS := Lib.hid (fillw (sbs (w4 n) (w4 m)) (w4 n) k (w4_len n) hlt)
      obtain ⟨s, hs⟩ : ∃ s, sbs (w4 n) (w4 m) k = s := ⟨_, rfl⟩
      obtain ⟨c', hcc⟩ : ∃ s, sbb (w4 n) (w4 m) (k + 1) = s := ⟨_, rfl⟩
      obtain ⟨x, hx⟩ : ∃ s, (w4 n).getD k 0 = s := ⟨_, rfl⟩
      obtain ⟨y, hy⟩ : ∃ s, (w4 m).getD k 0 = s := ⟨_, rfl⟩
      rw [hs, hcc, hx, hy] at HA
      rw [hs] at HS
      rw [hx] at c1
      rw [hy] at c2
      generalize sbb (w4 n) (w4 m) k = c0 at HA
      have HCC := Lib.hid hcc
      have ha := HA.out
      have f1 := HA1.out.frozen k
      clear hC hs hcc hx hy
      go_wp2_with fail
      go_region
      go_wp2
      go_roundw
      case rel => exact ⟨k + 1, rfl, by rw [HCC.out], hlt, by rw [← HS.out]; exact HA1.out.set s, HA2.out.other (setCell_other _ (by omega)), HA3.out.other (setCell_other _ (by omega)), (HBE.out.setCell (p := ⟨N, k, none⟩) (Nat.le_refl _) _).drew⟩
      case measure => simp [intOf]; omega
    · have hlt' : ¬ (k : Int) < 4 := by omega
      have h1 := HA1.out
      rw [show k = 4 by omega, HF.out.1, List.drop_eq_nil_of_le (by rw [w4_len]; exact Nat.le_refl _), List.append_nil] at h1
      have H1 := Lib.hid h1
      have HC := Lib.hid (show sbb (w4 n) (w4 m) k = c by rw [show k = 4 by omega]; exact HF.out.2)
      have HSZ := Lib.hid (sS r)
      have HO := Lib.hid (show (nums .u64 (zer 4)).size = (nums .u64 (w4 r)).size by rw [size_nums, size_nums, zer_len, w4_len])
      clear h1 HA1 HF
      go_wp2_with (first | (refine wpList_load_row rfl 103 _ rfl N rfl 103 _ (0, 0) _ H1.out Try.underlying103 rfl HSZ.out ?_) | (refine wpList_store_row rfl 103 _ _ rfl (N + 1 + 1) (nums .u64 (w4 r)) rfl rfl 103 _ HA3.out HSZ.out HO.out (nums_one _ _) ?_))
      refine bodyPost_ret (results_cell_slot (p := 4) (q := 5) (by rfl) _ _ (N + 1 + 1) 103 (nums .u64 (w4 r)) (0, 0) _ (.int .u64 (c : Int)) (by rfl) (setRow_heap _ _ _ _ _ _ HA3.out) Try.underlying103 rfl HSZ.out (congrArg (fun z : Nat => Value.int .u64 (z : Int)) HC.out)) rfl ⟨rfl, ?_⟩
      rw [HN.out]
      exact Below.setRow HBE.out (by omega) _
set_option maxRecDepth 100000 in
set_option maxHeartbeats 1000000 in
theorem plusS_any (n m : Nat) (w : World) (h : n + m < 13407807929942597099574024998205846127479365820592393377723561443721764030073546976801874298166903427690031858186486050853753882811946569946433649006084096) :
    Calls Try.prog 90 #[.agg (nums .u64 (w8 n)), .agg (nums .u64 (w8 m))] w fun e w' => e = .returned (.agg (nums .u64 (w8 (n + m)))) ∧ Below w.heap.size w w' := by
  have HF := Lib.hid (add8 n m h)
  have hz := zV
  obtain ⟨r, hr⟩ : ∃ r, n + m = r := ⟨_, rfl⟩
  rw [hr] at HF ⊢
  clear h hr
  go_enter Try.func90, Try.ntmps90
  go_wp2_with fail
  generalize hW1 : World.alloc _ _ = W1
  obtain ⟨N, hN⟩ : ∃ n, w.heap.size = n := ⟨_, rfl⟩
  have HR1 := Lib.hid (show RW W1 N .u64 105 ((List.range 0).map (adt 0 (w8 n) (w8 m)) ++ (w8 n).drop 0) by subst hW1; rw [← hN]; exact (alloc3_at w _ _ _).1)
  have HR2 := Lib.hid (show RW W1 (N + 1) .u64 105 (w8 m) by subst hW1; rw [← hN]; exact (alloc3_at w _ _ _).2.1)
  have HR3 := Lib.hid (show RW W1 (N + 1 + 1) .u64 105 (zer 8) by subst hW1; rw [← hN]; exact (alloc3_at w _ _ _).2.2)
  have HB1 := Lib.hid (show Below N w W1 by subst hW1; rw [← hN]; exact Below.alloc3 w _ _ _)
  have HN := Lib.hid hN
  rw [hN]
  clear hW1 hN hz
  go_loopw [5, 7] (fun cv iv wr => ∃ (k : Nat), iv = .int .i64 k ∧ cv = .int .u64 ((adb 0 (w8 n) (w8 m) k : Nat) : Int) ∧ k ≤ 8 ∧ RW wr N .u64 105 ((List.range k).map (adt 0 (w8 n) (w8 m)) ++ (w8 n).drop k) ∧ RW wr (N + 1) .u64 105 (w8 m) ∧ RW wr (N + 1 + 1) .u64 105 (zer 8) ∧ Below N w wr) (fun _ i _ => 8 - (intOf i).toNat)
  case atStart => exact ⟨0, rfl, rfl, Nat.zero_le _, HR1.out, HR2.out, HR3.out, HB1.out⟩
  case round =>
    obtain ⟨k, rfl, rfl, hk, hr1, hr2, hr3, hbel⟩ := hrel
    have HA1 := Lib.hid hr1
    have HA2 := Lib.hid hr2
    have HA3 := Lib.hid hr3
    have HBE := Lib.hid hbel
    clear hr1 hr2 hr3 hbel HR1 HR2 HR3 HB1
    by_cases hlt : k < 8
    · have hlt' : (k : Int) < 8 := by omega
      have c1 := HA1.out.cell (i := k) (by rw [fills_len _ _ _ 8 (w8n_len n) hk]; exact hlt)
      rw [fillw_get] at c1
      have c2 := HA2.out.cell (i := k) (by rw [w8n_len]; exact hlt)
      have hC := adb_le 0 (w8 n) (w8 m) (by decide) (w8_lt n) (w8_lt m) k
      have HA := Lib.hid (fun w => add64 ((w8 n).getD k 0) ((w8 m).getD k 0) (adb 0 (w8 n) (w8 m) k) (adt 0 (w8 n) (w8 m) k) (adb 0 (w8 n) (w8 m) (k + 1)) hC (by simp only [adt, adb]; omega) (Nat.mod_lt _ (by decide)) w)
      have HS := Lib.hid (fills (adt 0 (w8 n) (w8 m)) (w8 n) k 8 (w8n_len n) hlt)
      obtain ⟨s, hs⟩ : ∃ s, adt 0 (w8 n) (w8 m) k = s := ⟨_, rfl⟩
      obtain ⟨c', hcc⟩ : ∃ s, adb 0 (w8 n) (w8 m) (k + 1) = s := ⟨_, rfl⟩
      obtain ⟨x, hx⟩ : ∃ s, (w8 n).getD k 0 = s := ⟨_, rfl⟩
      obtain ⟨y, hy⟩ : ∃ s, (w8 m).getD k 0 = s := ⟨_, rfl⟩
      rw [hs, hcc, hx, hy] at HA
      rw [hs] at HS
      rw [hx] at c1
      rw [hy] at c2
      generalize adb 0 (w8 n) (w8 m) k = c0 at HA
      have HCC := Lib.hid hcc
      have ha := HA.out
      have f1 := HA1.out.frozen k
      clear hC hs hcc hx hy
      go_wp2_with fail
      go_region
      go_wp2
      go_roundw
      case rel => exact ⟨k + 1, rfl, by rw [HCC.out], hlt, by rw [← HS.out]; exact HA1.out.set s, HA2.out.other (setCell_other _ (by omega)), HA3.out.other (setCell_other _ (by omega)), (HBE.out.setCell (p := ⟨N, k, none⟩) (Nat.le_refl _) _).drew⟩
      case measure => simp [intOf]; omega
    · have hlt' : ¬ (k : Int) < 8 := by omega
      have h1 := HA1.out
      rw [show k = 8 by omega, HF.out, List.drop_eq_nil_of_le (by rw [w8n_len]; exact Nat.le_refl _), List.append_nil] at h1
      have H1 := Lib.hid h1
      have HSZ := Lib.hid (sV (w8 r) (w8n_len r))
      have HO := Lib.hid (show (nums .u64 (zer 8)).size = (nums .u64 (w8 r)).size by rw [size_nums, size_nums, zer_len, w8n_len])
      clear h1 HA1 HF
      go_wp2_with (first
        | (refine wpList_load_row rfl 105 _ rfl N rfl 105 (nums .u64 (w8 r)) (0, 0) _ H1.out Try.underlying105 rfl HSZ.out ?_)
        | (refine wpList_store_row rfl 105 _ _ rfl (N + 1 + 1) (nums .u64 (w8 r)) rfl rfl 105 _ HA3.out HSZ.out HO.out (nums_one _ _) ?_)
        )
      refine bodyPost_ret (results_cell_row (by rfl) _ _ (N + 1 + 1) 105 (nums .u64 (w8 r)) (0, 0) _ (by rfl) (setRow_heap _ _ _ _ _ _ HA3.out) Try.underlying105 rfl HSZ.out) rfl ⟨rfl, ?_⟩
      rw [HN.out]
      exact Below.setRow HBE.out (by omega) _
set_option maxRecDepth 100000 in
set_option maxHeartbeats 1000000 in
theorem orderS_any (w : World) : Calls Try.prog 94 #[] w fun e w' => e = .returned (.agg (nums .u64 (w4 7237005577332262213973186563042994240857116359379907606001950938285454250989))) ∧ Below w.heap.size w w' := by
  have hz := zS
  have HS := Lib.hid (sS 7237005577332262213973186563042994240857116359379907606001950938285454250989)
  go_enter Try.func94, Try.ntmps94
  go_wp2_with (first
    | (refine wpList_build' rfl 103 _ rfl (nums .u64 (w4 7237005577332262213973186563042994240857116359379907606001950938285454250989)) (by kernel_rfl) ?_)
    | (refine wpList_store_row rfl 103 _ _ rfl w.heap.size (nums .u64 (w4 7237005577332262213973186563042994240857116359379907606001950938285454250989)) rfl rfl 103 _ (Go.heap_alloc_new _ _) HS.out ?hold (nums_one _ _) ?_))
  case hold => rw [size_nums, size_nums, zer_len]; rfl
  exact bodyPost_ret (results_cell_row (by rfl) _ _ w.heap.size 103 (nums .u64 (w4 7237005577332262213973186563042994240857116359379907606001950938285454250989)) (0, 0) _ (by rfl) (setRow_heap _ _ _ _ _ _ (Go.heap_alloc_new _ _)) Try.underlying103 rfl HS.out) rfl ⟨rfl, below_set _ _ _ _⟩
set_option maxRecDepth 100000 in
set_option maxHeartbeats 1000000 in
theorem orderR_any (w : World) : Calls Try.prog 103 #[] w fun e w' => e = .returned (.agg (nums .u64 (w4 7237005577332262213973186563042994240857116359379907606001950938285454250989))) ∧ Below w.heap.size w w' := by
  have hz := zR
  have HS := Lib.hid (sR 7237005577332262213973186563042994240857116359379907606001950938285454250989)
  go_enter Try.func103, Try.ntmps103
  go_wp2_with (first
    | (refine wpList_build' rfl 86 _ rfl (nums .u64 (w4 7237005577332262213973186563042994240857116359379907606001950938285454250989)) (by kernel_rfl) ?_)
    | (refine wpList_store_row rfl 86 _ _ rfl w.heap.size (nums .u64 (w4 7237005577332262213973186563042994240857116359379907606001950938285454250989)) rfl rfl 86 _ (Go.heap_alloc_new _ _) HS.out ?hold (nums_one _ _) ?_))
  case hold => rw [size_nums, size_nums, zer_len]; rfl
  exact bodyPost_ret (results_cell_row (by rfl) _ _ w.heap.size 86 (nums .u64 (w4 7237005577332262213973186563042994240857116359379907606001950938285454250989)) (0, 0) _ (by rfl) (setRow_heap _ _ _ _ _ _ (Go.heap_alloc_new _ _)) Try.underlying86 rfl HS.out) rfl ⟨rfl, below_set _ _ _ _⟩
end Go.Proofs.Ytfmclkmmkceldaa
