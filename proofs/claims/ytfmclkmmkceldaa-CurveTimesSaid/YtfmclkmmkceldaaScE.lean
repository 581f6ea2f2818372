/-
  Package scalar: step and rest of the long division.
  Conditions: none.
-/
import Derived.Test.YtfmclkmmkceldaaScD
import Derived.Test.YtfmclkmmkceldaaUpS
namespace Go.Proofs.Ytfmclkmmkceldaa
open Go.RowKit

theorem run_allocS (a : Act) (o : Oper) (ho : o.op = .alloc 103) (w : World) : (execOp a.eval o).run Try.prog w = .ok (.value (.pointer (some ⟨w.heap.size, 0, none⟩))) (w.alloc (.cells (nums .u64 (zer 4)) 103)) := by
  have hz := zS
  unfold execOp
  simp only [ho]
  simp [go_sem, Instr.alloc, hz, Value.cells]
theorem setRow_belowX {w : World} {b : Nat} (B : Nat) (cs : Array Value) : BelowX B b w (w.setRow b cs) :=
  ⟨rfl, rfl, rfl, by rw [setRow_size]; exact Nat.le_refl _, fun k _ h => setRow_other _ _ _ _ h⟩
theorem BelowX.mono {B C b : Nat} {u v : World} (h : BelowX B b u v) (hc : C ≤ B) : BelowX C b u v := ⟨h.os, h.tape, h.output, h.size, fun k hk => h.block k (by omega)⟩
theorem BelowX.of {B b : Nat} {u v : World} (h : Below B u v) : BelowX B b u v := ⟨h.os, h.tape, h.output, h.size, fun k hk _ => h.block k hk⟩
theorem BelowX.drew {B b : Nat} {u v : World} (h : BelowX B b u v) : BelowX B b u v.drew := ⟨h.os, h.tape, h.output, h.size, h.block⟩
set_option maxRecDepth 100000 in
set_option maxHeartbeats 1000000 in
theorem stepS_any (v b M : Nat) (w : World) (hv : v < 7237005577332262213973186563042994240857116359379907606001950938285454250989) (hb : b ≤ 1) (h : RW w M .u64 103 (w4 v)) :
    Calls Try.prog 124 #[.pointer (some ⟨M, 0, none⟩), .int .u64 b] w fun e w' => e = .returned (.tuple #[]) ∧ RW w' M .u64 103 (w4 ((2 * v + b) % 7237005577332262213973186563042994240857116359379907606001950938285454250989)) ∧ BelowX w.heap.size M w w' := by
  have HF := Lib.hid (dbl4 v b hb (by omega))
  have HB0 := Lib.hid hb
  have HR1 := Lib.hid (show RW w M .u64 103 ((List.range 0).map (adt b (w4 v) (w4 v)) ++ (w4 v).drop 0) from h)
  have HOR := Lib.hid (fun w => orderS_any w)
  obtain ⟨d, hd⟩ : ∃ d, 2 * v + b = d := ⟨_, rfl⟩
  have HDL := Lib.hid (show d < 2 * 7237005577332262213973186563042994240857116359379907606001950938285454250989 by omega)
  rw [hd] at HF ⊢
  have HSD := Lib.hid (sS d)
  have hz := zS
  clear hd hv h hb
  go_enter Try.func124, Try.ntmps124
  go_wp2_with fail
  go_loopw [4, 11] (fun cv iv wr => ∃ (k : Nat), iv = .int .i64 k ∧ cv = .int .u64 ((adb b (w4 v) (w4 v) k : Nat) : Int) ∧ k ≤ 4 ∧ RW wr M .u64 103 ((List.range k).map (adt b (w4 v) (w4 v)) ++ (w4 v).drop k) ∧ BelowX w.heap.size M w wr) (fun _ i _ => 4 - (intOf i).toNat)
  case atStart => exact ⟨0, rfl, rfl, Nat.zero_le _, HR1.out, BelowX.refl _ _ _⟩
  case round =>
    obtain ⟨k, rfl, rfl, hk, hr1, hbel⟩ := hrel
    have HA1 := Lib.hid hr1
    have HBE := Lib.hid hbel
    clear hr1 hbel HR1
    by_cases hlt : k < 4
    · have hlt' : (k : Int) < 4 := by omega
      have c1 := HA1.out.cell (i := k) (by rw [fillw_len _ _ _ (w4_len v) hk]; exact hlt)
      rw [fillw_get] at c1
      have hC := adb_le b (w4 v) (w4 v) HB0.out (w4_lt v) (w4_lt v) k
      have HA := Lib.hid (fun w => add64 ((w4 v).getD k 0) ((w4 v).getD k 0) (adb b (w4 v) (w4 v) k) (adt b (w4 v) (w4 v) k) (adb b (w4 v) (w4 v) (k + 1)) hC (by simp only [adt, adb]; omega) (Nat.mod_lt _ (by decide)) w)
      have HS := Lib.hid (fillw (adt b (w4 v) (w4 v)) (w4 v) k (w4_len v) hlt)
      obtain ⟨s, hs⟩ : ∃ s, adt b (w4 v) (w4 v) k = s := ⟨_, rfl⟩
      obtain ⟨c', hcc⟩ : ∃ s, adb b (w4 v) (w4 v) (k + 1) = s := ⟨_, rfl⟩
      obtain ⟨x, hx⟩ : ∃ s, (w4 v).getD k 0 = s := ⟨_, rfl⟩
      rw [hs, hcc, hx] at HA
      rw [hs] at HS
      rw [hx] at c1
      generalize adb b (w4 v) (w4 v) k = cc at HA
      have HCC := Lib.hid hcc
      have ha := HA.out
      have f1 := HA1.out.frozen k
      clear hC hs hcc hx
      go_wp2_with fail
      go_region
      go_wp2_with fail
      go_region
      go_wp2
      go_roundw
      case rel => exact ⟨k + 1, rfl, by rw [HCC.out], hlt, by rw [← HS.out]; exact HA1.out.set s, ((HBE.out.trans (BelowX.set1 _ _ _)).drew).drew⟩
      case measure => simp [intOf]; omega
    · have hlt' : ¬ (k : Int) < 4 := by omega
      have h1 := HA1.out
      rw [show k = 4 by omega, HF.out, List.drop_eq_nil_of_le (by rw [w4_len]; exact Nat.le_refl _), List.append_nil] at h1
      have HA := Lib.hid h1
      clear h1 HA1 HF
      by_cases hdl : d < 7237005577332262213973186563042994240857116359379907606001950938285454250989
      · obtain ⟨r, hr⟩ : ∃ r, d + 115792089237316195423570985008687907853269984665640564039457584007913129639936 - 7237005577332262213973186563042994240857116359379907606001950938285454250989 = r := ⟨_, rfl⟩
        have HMI := Lib.hid (fun w => minusS_any d 7237005577332262213973186563042994240857116359379907606001950938285454250989 r 1 w (by omega) (by decide) (by omega) (by omega) (by decide))
        have HSR := Lib.hid (sS r)
        have HV := Lib.hid (show d = d % 7237005577332262213973186563042994240857116359379907606001950938285454250989 from (Nat.mod_eq_of_lt hdl).symm)
        clear hr hdl
        go_wp2_with fail
        refine wp_region_upA 9 7 8 [0, 1, 2, 3, 4, 5, 6, 7] _ (.cells (nums .u64 (zer 4)) 103) (by kernel_rfl) (by kernel_rfl) (fun _ _ dst _ _ h => by cases dst <;> exact h) rfl (fun a w K hK => wpOp_of_run rfl rfl (run_allocS a _ rfl w) hK) rfl ?_
        simp only [List.take_succ_cons, List.take_zero, List.drop_succ_cons, List.drop_zero, List.eraseIdx_cons_succ, List.eraseIdx_cons_zero]
        refine upW_val (by rfl) (by rfl) (by rfl) ?_
        intro K hK
        go_big_quiet_op
        refine hK _ ?_
        refine upW_late (by rfl) (.pointer (some ⟨M, 0, none⟩)) (fun _ => rfl) ?_
        simp only [Act.put, List.setIfInBounds_toArray, List.set]
        refine upW_val (by rfl) (by rfl) (by rfl) (fun K hK => quiet_load_row _ _ rfl M rfl 103 _ (0, 0) _ HA.out Try.underlying103 rfl HSD.out (hK _ ?_))
        simp only [Act.put, List.setIfInBounds_toArray, List.set]
        refine upW_call (by rfl) (by rfl) (.agg (nums .u64 (w4 7237005577332262213973186563042994240857116359379907606001950938285454250989))) _ rfl (by simp) (fun p => ?_) ?_
        · go_big_quiet_op
          exact ⟨_, fun q => Calls.ext_of (HOR.out q.x), rfl⟩
        simp only [Act.put, List.setIfInBounds_toArray, List.set]
        refine upW_call (by rfl) (by rfl) (.tuple #[.agg (nums .u64 (w4 r)), .int .u64 1]) _ rfl (by simp) (fun p => ?_) ?_
        · go_big_quiet_op
          exact ⟨_, fun q => Calls.ext_of (HMI.out q.x), rfl⟩
        simp only [Act.put, List.setIfInBounds_toArray, List.set]
        refine upW_val (by rfl) (by rfl) (by rfl) ?_
        intro K hK
        go_big_quiet_op
        refine hK _ ?_
        refine upW_late (by rfl) (.agg (nums .u64 (w4 r))) (fun _ => rfl) ?_
        simp only [Act.put, List.setIfInBounds_toArray, List.set]
        refine upW_late (by rfl) (.int .u64 1) (fun _ => rfl) ?_
        simp only [Act.put, List.setIfInBounds_toArray, List.set]
        refine upW_nil (fun Q wm hM hbm hom => ?_)
        simp only [List.setIfInBounds_toArray]
        have HOM := Lib.hid hom
        have HQM := Lib.hid (Nat.lt_of_lt_of_le HA.out.lt hM)
        have HN1 := Lib.hid (HA.out.ext hbm)
        have HB1 := Lib.hid (show BelowX w.heap.size M w wm from HBE.out.trans (BelowX.of (hbm.mono HBE.out.size)))
        have HQS := Lib.hid (show w.heap.size ≤ Q from Nat.le_trans HBE.out.size hM)
        clear hom hbm hM HA HBE
        go_wp2_with (refine wpList_store_row rfl 103 _ _ rfl Q (nums .u64 (w4 r)) rfl rfl 103 _ HOM.out HSR.out ?hold (nums_one _ _) (Stop.out ?_))
        case hold => rw [size_nums, size_nums, zer_len]; rfl
        generalize hWS : World.setRow _ _ _ = ws
        have H1 := Lib.hid (show RW ws M .u64 103 (w4 d) by subst hWS; exact HN1.out.other (setRow_other _ _ _ _ (by have := HQM.out; omega)))
        have H3 := Lib.hid (show RW ws Q .u64 103 (w4 r) by subst hWS; exact setRow_heap _ _ _ _ _ _ HOM.out)
        have HB3 := Lib.hid (show BelowX w.heap.size M w ws by subst hWS; exact HB1.out.trans ⟨rfl, rfl, rfl, by rw [setRow_size]; exact Nat.le_refl _, fun k hk _ => setRow_other _ _ _ _ (by have := HQS.out; omega)⟩)
        clear hWS HN1 HOM HB1
        refine ⟨?_⟩
        go_wp2_with fail
        exact ⟨rfl, _, results_none rfl _ _ _, rfl, HV.out ▸ H1.out, HB3.out⟩
      · obtain ⟨r, hr⟩ : ∃ r, d - 7237005577332262213973186563042994240857116359379907606001950938285454250989 = r := ⟨_, rfl⟩
        have HMI := Lib.hid (fun w => minusS_any d 7237005577332262213973186563042994240857116359379907606001950938285454250989 r 0 w (by have := HDL.out; omega) (by decide) (by have := HDL.out; omega) (by have := HDL.out; omega) (by decide))
        have HSR := Lib.hid (sS r)
        have HV := Lib.hid (show r = d % 7237005577332262213973186563042994240857116359379907606001950938285454250989 by have := HDL.out; omega)
        clear hr hdl
        go_wp2_with fail
        refine wp_region_upA 9 7 8 [0, 1, 2, 3, 4, 5, 6, 7] _ (.cells (nums .u64 (zer 4)) 103) (by kernel_rfl) (by kernel_rfl) (fun _ _ dst _ _ h => by cases dst <;> exact h) rfl (fun a w K hK => wpOp_of_run rfl rfl (run_allocS a _ rfl w) hK) rfl ?_
        simp only [List.take_succ_cons, List.take_zero, List.drop_succ_cons, List.drop_zero, List.eraseIdx_cons_succ, List.eraseIdx_cons_zero]
        refine upW_val (by rfl) (by rfl) (by rfl) ?_
        intro K hK
        go_big_quiet_op
        refine hK _ ?_
        refine upW_late (by rfl) (.pointer (some ⟨M, 0, none⟩)) (fun _ => rfl) ?_
        simp only [Act.put, List.setIfInBounds_toArray, List.set]
        refine upW_val (by rfl) (by rfl) (by rfl) (fun K hK => quiet_load_row _ _ rfl M rfl 103 _ (0, 0) _ HA.out Try.underlying103 rfl HSD.out (hK _ ?_))
        simp only [Act.put, List.setIfInBounds_toArray, List.set]
        refine upW_call (by rfl) (by rfl) (.agg (nums .u64 (w4 7237005577332262213973186563042994240857116359379907606001950938285454250989))) _ rfl (by simp) (fun p => ?_) ?_
        · go_big_quiet_op
          exact ⟨_, fun q => Calls.ext_of (HOR.out q.x), rfl⟩
        simp only [Act.put, List.setIfInBounds_toArray, List.set]
        refine upW_call (by rfl) (by rfl) (.tuple #[.agg (nums .u64 (w4 r)), .int .u64 0]) _ rfl (by simp) (fun p => ?_) ?_
        · go_big_quiet_op
          exact ⟨_, fun q => Calls.ext_of (HMI.out q.x), rfl⟩
        simp only [Act.put, List.setIfInBounds_toArray, List.set]
        refine upW_val (by rfl) (by rfl) (by rfl) ?_
        intro K hK
        go_big_quiet_op
        refine hK _ ?_
        refine upW_late (by rfl) (.agg (nums .u64 (w4 r))) (fun _ => rfl) ?_
        simp only [Act.put, List.setIfInBounds_toArray, List.set]
        refine upW_late (by rfl) (.int .u64 0) (fun _ => rfl) ?_
        simp only [Act.put, List.setIfInBounds_toArray, List.set]
        refine upW_nil (fun Q wm hM hbm hom => ?_)
        simp only [List.setIfInBounds_toArray]
        have HOM := Lib.hid hom
        have HQM := Lib.hid (Nat.lt_of_lt_of_le HA.out.lt hM)
        have HN1 := Lib.hid (HA.out.ext hbm)
        have HB1 := Lib.hid (show BelowX w.heap.size M w wm from HBE.out.trans (BelowX.of (hbm.mono HBE.out.size)))
        have HQS := Lib.hid (show w.heap.size ≤ Q from Nat.le_trans HBE.out.size hM)
        clear hom hbm hM HA HBE
        go_wp2_with (refine wpList_store_row rfl 103 _ _ rfl Q (nums .u64 (w4 r)) rfl rfl 103 _ HOM.out HSR.out ?hold (nums_one _ _) (Stop.out ?_))
        case hold => rw [size_nums, size_nums, zer_len]; rfl
        generalize hWS : World.setRow _ _ _ = ws
        have H1 := Lib.hid (show RW ws M .u64 103 (w4 d) by subst hWS; exact HN1.out.other (setRow_other _ _ _ _ (by have := HQM.out; omega)))
        have H3 := Lib.hid (show RW ws Q .u64 103 (w4 r) by subst hWS; exact setRow_heap _ _ _ _ _ _ HOM.out)
        have HB3 := Lib.hid (show BelowX w.heap.size M w ws by subst hWS; exact HB1.out.trans ⟨rfl, rfl, rfl, by rw [setRow_size]; exact Nat.le_refl _, fun k hk _ => setRow_other _ _ _ _ (by have := HQS.out; omega)⟩)
        clear hWS HN1 HOM HB1
        refine ⟨?_⟩
        have HO := Lib.hid (show (nums .u64 (w4 d)).size = (nums .u64 (w4 r)).size by rw [size_nums, size_nums, w4_len, w4_len])
        go_wp2_with (first
          | (refine wpList_load_row rfl 103 _ rfl Q rfl 103 (nums .u64 (w4 r)) (0, 0) _ H3.out Try.underlying103 rfl HSR.out ?_)
          | (refine wpList_store_row rfl 103 _ _ rfl M (nums .u64 (w4 r)) rfl rfl 103 _ H1.out HSR.out HO.out (nums_one _ _) (Stop.out ?_))
          )
        generalize hWS : World.setRow _ _ _ = wz
        have H4 := Lib.hid (show RW wz M .u64 103 (w4 r) by subst hWS; exact setRow_heap _ _ _ _ _ _ H1.out)
        have HB4 := Lib.hid (show BelowX w.heap.size M w wz by subst hWS; exact HB3.out.trans (setRow_belowX _ _))
        clear hWS H1 H3 HB3
        refine ⟨?_⟩
        go_wp2_with fail
        exact ⟨rfl, _, results_none rfl _ _ _, rfl, HV.out ▸ H4.out, HB4.out⟩
set_option maxRecDepth 100000 in
set_option maxHeartbeats 1000000 in
theorem pow512 (k : Nat) (h : k = 256 + 256) : 2 ^ k = 13407807929942597099574024998205846127479365820592393377723561443721764030073546976801874298166903427690031858186486050853753882811946569946433649006084096 := by
  obtain ⟨a, ha⟩ : ∃ a : Nat, a = 256 := ⟨_, rfl⟩
  rw [show k = a + a by omega, Nat.pow_add, ha]
theorem rest_top (n k : Nat) (hk : k = 512) (h : n < 13407807929942597099574024998205846127479365820592393377723561443721764030073546976801874298166903427690031858186486050853753882811946569946433649006084096) : n / 2 ^ k % 7237005577332262213973186563042994240857116359379907606001950938285454250989 = 0 := by
  rw [pow512 k (by omega), Nat.div_eq_of_lt h]
theorem bit_le (n k : Nat) : n / 2 ^ k % 2 ≤ 1 := by omega
set_option maxRecDepth 100000 in
set_option maxHeartbeats 1000000 in
theorem restS_any (n : Nat) (w : World) (hn : n < 13407807929942597099574024998205846127479365820592393377723561443721764030073546976801874298166903427690031858186486050853753882811946569946433649006084096) :
    Calls Try.prog 91 #[.agg (nums .u64 (w8 n))] w fun e w' => e = .returned (.agg (nums .u64 (w4 (n % 7237005577332262213973186563042994240857116359379907606001950938285454250989)))) ∧ Below w.heap.size w w' := by
  have HTOP := Lib.hid (fun k hk => rest_top n k hk hn)
  obtain ⟨K, hK⟩ : ∃ K : Nat, K = 512 := ⟨_, rfl⟩
  have HK := Lib.hid hK
  have HSN := Lib.hid (sV (w8 n) (w8n_len n))
  have hz := zS
  obtain ⟨x, hx⟩ : ∃ x, n % 7237005577332262213973186563042994240857116359379907606001950938285454250989 = x := ⟨_, rfl⟩
  have HX := Lib.hid hx
  rw [hx]
  clear hn hx hK
  go_enter Try.func91, Try.ntmps91
  go_upto_region 2 with fail
  generalize hW1 : World.alloc _ _ = W1
  obtain ⟨N, hN⟩ : ∃ n, w.heap.size = n := ⟨_, rfl⟩
  have HR1 := Lib.hid (show RW W1 N .u64 105 (w8 n) by subst hW1; rw [← hN]; exact (alloc3_at w _ _ _).1)
  have HR2 := Lib.hid (show RW W1 (N + 1) .u64 103 (zer 4) by subst hW1; rw [← hN]; exact (alloc3_at w _ _ _).2.1)
  have HR3 := Lib.hid (show RW W1 (N + 1 + 1) .u64 103 (w4 0) by subst hW1; rw [← hN]; exact (alloc3_at w _ _ _).2.2)
  have HB1 := Lib.hid (show Below N w W1 by subst hW1; rw [← hN]; exact Below.alloc3 w _ _ _)
  have HN := Lib.hid hN
  rw [hN]
  clear hW1 hN hz
  go_wp2_with fail
  go_loopw [5] (fun iv wr => ∃ (k : Nat), iv = .int .i64 ((k : Int) - 1) ∧ k ≤ 512 ∧ RW wr N .u64 105 (w8 n) ∧ RW wr (N + 1) .u64 103 (zer 4) ∧ RW wr (N + 1 + 1) .u64 103 (w4 (n / 2 ^ k % 7237005577332262213973186563042994240857116359379907606001950938285454250989)) ∧ Below N w wr) (fun i _ => (intOf i + 1).toNat)
  case atStart => exact ⟨K, by rw [HK.out]; rfl, Nat.le_of_eq HK.out, HR1.out, HR2.out, by rw [HTOP.out K HK.out]; exact HR3.out, HB1.out⟩
  case round =>
    obtain ⟨k, rfl, hk, h1, h2, h3, hbel⟩ := hrel
    have HA1 := Lib.hid h1
    have HA2 := Lib.hid h2
    have HA3 := Lib.hid h3
    have HBE := Lib.hid hbel
    clear h1 h2 h3 hbel HR1 HR2 HR3 HB1
    cases k with
    | zero =>
      have HH := Lib.hid (show RW wr (N + 1 + 1) .u64 103 (w4 x) by have := HA3.out; rw [Nat.pow_zero, Nat.div_one, HX.out] at this; exact this)
      have HSX := Lib.hid (sS x)
      have HO := Lib.hid (show (nums .u64 (zer 4)).size = (nums .u64 (w4 x)).size by rw [size_nums, size_nums, zer_len, w4_len])
      clear HA3
      go_wp2_with (first
        | (refine wpList_load_row rfl 103 _ rfl (N + 1 + 1) rfl 103 (nums .u64 (w4 x)) (0, 0) _ HH.out Try.underlying103 rfl HSX.out ?_)
        | (refine wpList_store_row rfl 103 _ _ rfl (N + 1) (nums .u64 (w4 x)) rfl rfl 103 _ HA2.out HSX.out HO.out (nums_one _ _) ?_)
        )
      refine bodyPost_ret (results_cell_row (by rfl) _ _ (N + 1) 103 (nums .u64 (w4 x)) (0, 0) _ (by rfl) (setRow_heap _ _ _ _ _ _ HA2.out) Try.underlying103 rfl HSX.out) rfl ⟨rfl, ?_⟩
      rw [HN.out]
      exact Below.setRow HBE.out (by omega) _
    | succ k =>
      have i0 : ((k + 1 : Nat) : Int) - 1 = (k : Int) := by omega
      rw [i0]
      have HBT := Lib.hid (fun w => bitS_any n k w (by omega))
      have HNB := Lib.hid (rest_bit n k 7237005577332262213973186563042994240857116359379907606001950938285454250989)
      have HBL := Lib.hid (bit_le n k)
      have HVL := Lib.hid (show n / 2 ^ (k + 1) % 7237005577332262213973186563042994240857116359379907606001950938285454250989 < 7237005577332262213973186563042994240857116359379907606001950938285454250989 from Nat.mod_lt _ (by decide))
      obtain ⟨b, hb⟩ : ∃ b, n / 2 ^ k % 2 = b := ⟨_, rfl⟩
      obtain ⟨v, hv⟩ : ∃ b, n / 2 ^ (k + 1) % 7237005577332262213973186563042994240857116359379907606001950938285454250989 = b := ⟨_, rfl⟩
      rw [hb] at HBT HNB HBL
      rw [hv] at HNB HVL HA3
      clear hb hv
      go_wp2_with (refine wpList_load_row rfl 105 _ rfl N rfl 105 (nums .u64 (w8 n)) (0, 0) _ HA1.out Try.underlying105 rfl HSN.out ?_)
      refine (HBT.out _).mono ?_
      rintro e2 w2 ⟨rfl, hb2⟩
      have HC1 := Lib.hid (HA1.out.ext hb2)
      have HC2 := Lib.hid (HA2.out.ext hb2)
      have HC3 := Lib.hid (HA3.out.ext hb2)
      have HCB := Lib.hid (HBE.out.trans (hb2.mono (show N ≤ _ by have := HA3.out.lt; omega)))
      clear hb2 HA1 HA2 HA3 HBE
      go_wp2_with fail
      refine (stepS_any v b (N + 1 + 1) _ HVL.out HBL.out HC3.out).mono ?_
      rintro e3 w3 ⟨rfl, hq, hqx⟩
      have HD1 := Lib.hid (HC1.out.belowX hqx (by omega))
      have HD2 := Lib.hid (HC2.out.belowX hqx (by omega))
      have HD3 := Lib.hid (show RW w3 (N + 1 + 1) .u64 103 (w4 (n / 2 ^ k % 7237005577332262213973186563042994240857116359379907606001950938285454250989)) by rw [← HNB.out]; exact hq)
      have HDB := Lib.hid (below_x HCB.out hqx (by omega) (by have := HC3.out.lt; omega))
      clear hq hqx HC1 HC2 HC3 HCB
      go_wp2_with fail
      go_roundw
      case rel => exact ⟨k, rfl, by omega, HD1.out, HD2.out, HD3.out, HDB.out⟩
      case measure => simp [intOf]
end Go.Proofs.Ytfmclkmmkceldaa
