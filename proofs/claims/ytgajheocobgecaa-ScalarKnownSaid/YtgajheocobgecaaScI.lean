/-
  The document's restL, small.
  Conditions: none.
-/
import Derived.Test.YtgajheocobgecaaScH
namespace Go.Proofs.Ytgajheocobgecaa
open Go.RowKit

theorem run_allocRL (a : Act) (o : Oper) (ho : o.op = .alloc 64) (w : World) : (execOp a.eval o).run Try.prog w = .ok (.value (.pointer (some ⟨w.heap.size, 0, none⟩))) (w.alloc (.cells (nums .u64 (zer 4)) 64)) := run_allocR a o ho w
/-- A bit goes in at the lowest place of an even number. -/
theorem low_or (d b : Nat) (hb : b ≤ 1) : (w4 (2 * d)).set 0 (wd (2 * d) 0 + b) = w4 (2 * d + b) ∧ wd (2 * d) 0 + b < 18446744073709551616 ∧ bits .or .u64 ((wd (2 * d) 0 : Nat) : Int) (b : Int) = ((wd (2 * d) 0 + b : Nat) : Int) := by
  have hx : wd (2 * d) 0 % 2 = 0 := by unfold wd; rw [Nat.pow_zero, Nat.div_one]; omega
  have hl : wd (2 * d) 0 < 18446744073709551616 := wd_lt _ _
  refine ⟨?_, by omega, ?_⟩
  · unfold w4 wd
    simp only [List.set_cons_zero, Nat.pow_zero, Nat.div_one]
    congr 1
    · omega
    congr 1
    · omega
    congr 1
    · omega
    congr 1
    · omega
  · rw [bits_join .u64 64 (by decide) wraps_u64 1 _ _ (by omega) (by omega) (by omega) (by omega) (by omega) (by omega)]
    omega
set_option maxRecDepth 100000 in
set_option maxHeartbeats 1000000 in
theorem restL_any (n : Nat) (w : World) (hn : n < 13407807929942597099574024998205846127479365820592393377723561443721764030073546976801874298166903427690031858186486050853753882811946569946433649006084096) :
    Calls Try.prog 70 #[.agg (nums .u64 (w8 n))] w fun e w' => e = .returned (.agg (nums .u64 (w4 (n % 7237005577332262213973186563042994240857116359379907606001950938285454250989)))) ∧ Below w.heap.size w w' := by
  have HTOP := Lib.hid (fun k hk => rest_top n k hk hn)
  obtain ⟨K, hK⟩ : ∃ K : Nat, K = 512 := ⟨_, rfl⟩
  have HK := Lib.hid hK
  have HSN := Lib.hid (s8 (w8 n) (w8n_len n))
  have HOR := Lib.hid (fun w => orderR_any w)
  have hz := zR
  obtain ⟨x, hx⟩ : ∃ x, n % 7237005577332262213973186563042994240857116359379907606001950938285454250989 = x := ⟨_, rfl⟩
  have HX := Lib.hid hx
  rw [hx]
  clear hn hx hK
  go_enter Try.func70, Try.ntmps70
  go_upto_region 2 with fail
  generalize hW1 : World.alloc _ _ = W1
  obtain ⟨N, hN⟩ : ∃ n, w.heap.size = n := ⟨_, rfl⟩
  have HR1 := Lib.hid (show RW W1 N .u64 76 (w8 n) by subst hW1; rw [← hN]; exact (alloc3_at w _ _ _).1)
  have HR2 := Lib.hid (show RW W1 (N + 1) .u64 64 (zer 4) by subst hW1; rw [← hN]; exact (alloc3_at w _ _ _).2.1)
  have HR3 := Lib.hid (show RW W1 (N + 1 + 1) .u64 64 (w4 0) by subst hW1; rw [← hN]; exact (alloc3_at w _ _ _).2.2)
  have HB1 := Lib.hid (show Below N w W1 by subst hW1; rw [← hN]; exact Below.alloc3 w _ _ _)
  have HN := Lib.hid hN
  rw [hN]
  clear hW1 hN
  go_wp2_with fail
  go_loopw [4] (fun iv wr => ∃ (k : Nat), iv = .int .i64 ((k : Int) - 1) ∧ k ≤ 512 ∧ RW wr N .u64 76 (w8 n) ∧ RW wr (N + 1) .u64 64 (zer 4) ∧ RW wr (N + 1 + 1) .u64 64 (w4 (n / 2 ^ k % 7237005577332262213973186563042994240857116359379907606001950938285454250989)) ∧ Below N w wr) (fun i _ => (intOf i + 1).toNat)
  case atStart => exact ⟨K, by rw [HK.out]; rfl, Nat.le_of_eq HK.out, HR1.out, HR2.out, by rw [HTOP.out K HK.out]; exact HR3.out, HB1.out⟩
  case round =>
    obtain ⟨k, rfl, hk, h1, h2, h3, hbel⟩ := hrel
    have HA1 := Lib.hid h1
    have HA2 := Lib.hid h2
    have HA3 := Lib.hid h3
    have HBE := Lib.hid hbel
    clear h1 h2 h3 hbel HR1 HR2 HR3 HB1
    cases k with
    | zero =>
      have HH := Lib.hid (show RW wr (N + 1 + 1) .u64 64 (w4 x) by have := HA3.out; rw [Nat.pow_zero, Nat.div_one, HX.out] at this; exact this)
      have HSX := Lib.hid (sR x)
      have HO := Lib.hid (show (nums .u64 (zer 4)).size = (nums .u64 (w4 x)).size by rw [size_nums, size_nums, zer_len, w4_len])
      clear HA3
      go_wp2_with (first
        | (refine wpList_load_row rfl 64 _ rfl (N + 1 + 1) rfl 64 (nums .u64 (w4 x)) (0, 0) _ HH.out Try.underlying64 rfl HSX.out ?_)
        | (refine wpList_store_row rfl 64 _ _ rfl (N + 1) (nums .u64 (w4 x)) rfl rfl 64 _ HA2.out HSX.out HO.out (nums_one _ _) ?_)
        )
      refine bodyPost_ret (results_cell_row (by rfl) _ _ (N + 1) 64 (nums .u64 (w4 x)) (0, 0) _ (by rfl) (setRow_heap _ _ _ _ _ _ HA2.out) Try.underlying64 rfl HSX.out) rfl ⟨rfl, ?_⟩
      rw [HN.out]
      exact Below.setRow HBE.out (by omega) _
    | succ k =>
      have i0 : ((k + 1 : Nat) : Int) - 1 = (k : Int) := by omega
      rw [i0]
      have HNB := Lib.hid (rest_bit n k 7237005577332262213973186563042994240857116359379907606001950938285454250989)
      have HBL := Lib.hid (bit_le n k)
      have HVL := Lib.hid (show n / 2 ^ (k + 1) % 7237005577332262213973186563042994240857116359379907606001950938285454250989 < 7237005577332262213973186563042994240857116359379907606001950938285454250989 from Nat.mod_lt _ (by decide))
      have HBW := Lib.hid (div_bit n k)
      obtain ⟨b, hb⟩ : ∃ b, n / 2 ^ k % 2 = b := ⟨_, rfl⟩
      obtain ⟨v, hv⟩ : ∃ b, n / 2 ^ (k + 1) % 7237005577332262213973186563042994240857116359379907606001950938285454250989 = b := ⟨_, rfl⟩
      rw [hb] at HNB HBL HBW
      rw [hv] at HNB HVL HA3
      have HSV := Lib.hid (sR v)
      have HPL := Lib.hid (fun w => plusR_any v v (2 * v) 0 w (by have := HVL.out; omega) (by have := HVL.out; omega) (by have := HVL.out; omega) (by omega))
      have HLO := Lib.hid (low_or v b HBL.out)
      have HS2 := Lib.hid (sR (2 * v))
      have HO1 := Lib.hid (show (nums .u64 (w4 v)).size = (nums .u64 (w4 (2 * v))).size by rw [size_nums, size_nums, w4_len, w4_len])
      have HDL := Lib.hid (show 2 * v + b < 2 * 7237005577332262213973186563042994240857116359379907606001950938285454250989 by have := HVL.out; have := HBL.out; omega)
      obtain ⟨d2, hd2⟩ : ∃ d, 2 * v = d := ⟨_, rfl⟩
      rw [hd2] at HPL HLO HS2 HO1 HNB HDL
      clear hb hv hd2
      go_wp2_with (refine wpList_load_row rfl 64 _ rfl (N + 1 + 1) rfl 64 (nums .u64 (w4 v)) (0, 0) _ HA3.out Try.underlying64 rfl HSV.out ?_)
      refine (HPL.out _).mono ?_
      rintro e2 w2 ⟨rfl, hb2⟩
      have HC1 := Lib.hid (HA1.out.ext hb2)
      have HC2 := Lib.hid (HA2.out.ext hb2)
      have HC3 := Lib.hid (HA3.out.ext hb2)
      have HCB := Lib.hid (HBE.out.trans (hb2.mono (show N ≤ _ by have := HA3.out.lt; omega)))
      clear hb2 HA1 HA2 HA3 HBE
      go_wp2_with (refine wpList_store_row rfl 64 _ _ rfl (N + 1 + 1) (nums .u64 (w4 d2)) rfl rfl 64 _ HC3.out HS2.out HO1.out (nums_one _ _) (Stop.out ?_))
      generalize hWS : World.setRow _ _ _ = wd'
      have HD1 := Lib.hid (show RW wd' N .u64 76 (w8 n) by subst hWS; exact HC1.out.other (setRow_other _ _ _ _ (by omega)))
      have HD2 := Lib.hid (show RW wd' (N + 1) .u64 64 (zer 4) by subst hWS; exact HC2.out.other (setRow_other _ _ _ _ (by omega)))
      have HD3 := Lib.hid (show RW wd' (N + 1 + 1) .u64 64 (w4 d2) by subst hWS; exact setRow_heap _ _ _ _ _ _ HC3.out)
      have HDB := Lib.hid (show Below N w wd' by subst hWS; exact Below.setRow HCB.out (by omega) _)
      clear hWS HC1 HC2 HC3 HCB
      refine ⟨?_⟩
      have c1 := HD1.out.cell (i := k / 64) (by rw [w8n_len]; omega)
      rw [w8n_get _ (k / 64) (by omega)] at c1
      have c3 := HD3.out.cell (i := 0) (by rw [w4_len]; decide)
      rw [w4_get _ 0 (by decide)] at c3
      have hw : wd n (k / 64) < 18446744073709551616 := Nat.mod_lt _ (by decide)
      have e1 : (k : Int) / 64 = ((k / 64 : Nat) : Int) := by omega
      have e2 : (k : Int) % 64 = ((k % 64 : Nat) : Int) := by omega
      have hq : ((k / 64 : Nat) : Int) < 8 := by omega
      have hq0 : (0 : Int) ≤ ((k / 64 : Nat) : Int) := by omega
      have hr : ((k % 64 : Nat) : Int) < 64 := by omega
      have hr0 : (0 : Int) ≤ ((k % 64 : Nat) : Int) := by omega
      have hk0 : (0 : Int) ≤ (k : Int) := by omega
      generalize k / 64 = q at e1 hq hq0 c1 HBW hw
      generalize k % 64 = r at e2 hr hr0 HBW
      generalize wd n q = y at c1 HBW hw
      have hbits : bits .and .u64 ((y : Int) / 2 ^ r) 1 = (b : Int) := by
        rw [show (y : Int) / 2 ^ r = ((y / 2 ^ r : Nat) : Int) by simp, and1N (y / 2 ^ r) (Nat.lt_of_le_of_lt (Nat.div_le_self _ _) hw), HBW.out]
      have hor := HLO.out.2.2
      have HST := Lib.hid HLO.out.1
      obtain ⟨a0, ha0⟩ : ∃ a, wd d2 0 = a := ⟨_, rfl⟩
      rw [ha0] at c3 hor HST
      obtain ⟨s, hs⟩ : ∃ s, a0 + b = s := ⟨_, rfl⟩
      rw [hs] at hor HST
      have k1 := fun p => Ext.cell c1 p
      have k3 := fun p => Ext.cell c3 p
      clear hw ha0 hs HLO
      go_wp2_with fail
      refine wp_region_up 12 12 (by kernel_rfl) (by kernel_rfl) (fun _ _ dst _ _ h => by cases dst <;> exact h) ?_
      simp only [List.take_succ_cons, List.take_zero, List.drop_succ_cons, List.drop_zero]
      refine upW_val (by rfl) (by rfl) (by rfl) ?_
      intro K hK
      go_big_quiet_op
      refine hK _ ?_
      refine upW_val (by rfl) (by rfl) (by rfl) ?_
      intro K hK
      go_big_quiet_op
      refine hK _ ?_
      refine upW_val (by rfl) (by rfl) (by rfl) ?_
      intro K hK
      go_big_quiet_op
      refine hK _ ?_
      refine upW_val (by rfl) (by rfl) (by rfl) ?_
      intro K hK
      go_big_quiet_op
      refine hK _ ?_
      refine upW_val (by rfl) (by rfl) (by rfl) ?_
      intro K hK
      go_big_quiet_op
      refine hK _ ?_
      refine upW_val (by rfl) (by rfl) (by rfl) ?_
      intro K hK
      go_big_quiet_op
      refine hK _ ?_
      refine upW_val (by rfl) (by rfl) (by rfl) ?_
      intro K hK
      go_big_quiet_op
      refine hK _ ?_
      refine upW_val (by rfl) (by rfl) (by rfl) ?_
      intro K hK
      go_big_quiet_op
      refine hK _ ?_
      refine upW_val (by rfl) (by rfl) (by rfl) ?_
      intro K hK
      go_big_quiet_op
      refine hK _ ?_
      refine upW_val (by rfl) (by rfl) (by rfl) ?_
      intro K hK
      go_big_quiet_op
      refine hK _ ?_
      refine upW_val (by rfl) (by rfl) (by rfl) ?_
      intro K hK
      go_big_quiet_op
      refine hK _ ?_
      refine upW_val (by rfl) (by rfl) (by rfl) ?_
      intro K hK
      go_big_quiet_op
      refine hK _ ?_
      refine upW_nil (fun wy hby => ?_)
      have HE1 := Lib.hid (HD1.out.ext hby)
      have HE2 := Lib.hid (HD2.out.ext hby)
      have HE3 := Lib.hid (HD3.out.ext hby)
      have HEB := Lib.hid (HDB.out.trans (hby.mono (show N ≤ _ by have := HD3.out.lt; omega)))
      have c4 := HE3.out.cell (i := 0) (by rw [w4_len]; decide)
      have f4 := HE3.out.frozen 0
      clear hby c1 c3 k1 k3 HD1 HD2 HD3 HDB
      go_upto_region 7 with fail
      generalize hWT : World.setCell _ _ _ = wt
      obtain ⟨d, hd⟩ : ∃ d, d2 + b = d := ⟨_, rfl⟩
      rw [hd] at HST HNB HDL
      have HF1 := Lib.hid (show RW wt N .u64 76 (w8 n) by subst hWT; exact HE1.out.other (setCell_other _ (by omega)))
      have HF2 := Lib.hid (show RW wt (N + 1) .u64 64 (zer 4) by subst hWT; exact HE2.out.other (setCell_other _ (by omega)))
      have HF3 := Lib.hid (show RW wt (N + 1 + 1) .u64 64 (w4 d) by subst hWT; rw [← HST.out]; exact HE3.out.set s)
      have HFB := Lib.hid (show Below N w wt by subst hWT; exact HEB.out.setCell (p := ⟨(N + 1 + 1), 0, none⟩) (by show N ≤ N + 1 + 1; omega) _)
      have HSD := Lib.hid (sR d)
      clear hWT hd HE1 HE2 HE3 HEB c4 f4 HST e1 e2 hq hq0 hr hr0 hbits hor
      by_cases hdl : d < 7237005577332262213973186563042994240857116359379907606001950938285454250989
      · obtain ⟨r, hr⟩ : ∃ r, d + 115792089237316195423570985008687907853269984665640564039457584007913129639936 - 7237005577332262213973186563042994240857116359379907606001950938285454250989 = r := ⟨_, rfl⟩
        have HMI := Lib.hid (fun w => takeR_any d 7237005577332262213973186563042994240857116359379907606001950938285454250989 r 1 w (by omega) (by decide) (by omega) (by omega) (by decide))
        have HSR := Lib.hid (sR r)
        have HV := Lib.hid (show d = n / 2 ^ k % 7237005577332262213973186563042994240857116359379907606001950938285454250989 by rw [← HNB.out]; exact (Nat.mod_eq_of_lt hdl).symm)
        clear hr hdl
        refine wp_region_upA 7 5 6 [0, 1, 2, 3, 4, 5] _ (.cells (nums .u64 (zer 4)) 64) (by kernel_rfl) (by kernel_rfl) (fun _ _ dst _ _ h => by cases dst <;> exact h) rfl (fun a w K hK => wpOp_of_run rfl rfl (run_allocR a _ rfl w) hK) rfl ?_
        simp only [List.take_succ_cons, List.take_zero, List.drop_succ_cons, List.drop_zero, List.eraseIdx_cons_succ, List.eraseIdx_cons_zero]
        refine upW_val (by rfl) (by rfl) (by rfl) (fun K hK => quiet_load_row _ _ rfl (N + 1 + 1) rfl 64 _ (0, 0) _ HF3.out Try.underlying64 rfl HSD.out (hK _ ?_))
        simp only [Act.put, List.setIfInBounds_toArray, List.set]
        refine upW_call (by rfl) (by rfl) (.agg (nums .u64 (w4 7237005577332262213973186563042994240857116359379907606001950938285454250989))) _ rfl (by simp) (fun p => ?_) ?_
        · go_big_quiet_op
          exact ⟨_, fun q => Calls.ext_of (HOR.out q.x), rfl⟩
        simp only [Act.put, List.setIfInBounds_toArray, List.set]
        refine upW_call (by rfl) (by rfl) (.tuple #[.agg (nums .u64 (w4 r)), .int .u64 1]) _ rfl (by simp) (fun p => ?_) ?_
        · go_big_quiet_op
          exact ⟨_, fun q => Calls.ext_of (HMI.out q.x), rfl⟩
        simp only [Act.put, List.setIfInBounds_toArray, List.set]
        refine upW_val (by rfl) (by rfl) (by rfl) ?_
        intro K hK
        go_big_quiet_op
        refine hK _ ?_
        refine upW_late (by rfl) (.agg (nums .u64 (w4 r))) (fun _ => rfl) ?_
        simp only [Act.put, List.setIfInBounds_toArray, List.set]
        refine upW_late (by rfl) (.int .u64 1) (fun _ => rfl) ?_
        simp only [Act.put, List.setIfInBounds_toArray, List.set]
        refine upW_nil (fun M wm hM hbm hom => ?_)
        simp only [List.setIfInBounds_toArray]
        have HOM := Lib.hid hom
        have hM1 : N + 1 + 1 < M := Nat.lt_of_lt_of_le HF3.out.lt hM
        have HG1 := Lib.hid (HF1.out.ext hbm)
        have HG2 := Lib.hid (HF2.out.ext hbm)
        have HG3 := Lib.hid (HF3.out.ext hbm)
        have HGB := Lib.hid (HFB.out.trans (hbm.mono (show N ≤ _ by have := HF3.out.lt; omega)))
        clear hom hbm hM HF1 HF2 HF3 HFB
        go_wp2_with (refine wpList_store_row rfl 64 _ _ rfl M (nums .u64 (w4 r)) rfl rfl 64 _ HOM.out HSR.out ?hold (nums_one _ _) (Stop.out ?_))
        case hold => rw [size_nums, size_nums, zer_len]; rfl
        generalize hWS : World.setRow _ _ _ = ws
        have H1 := Lib.hid (show RW ws N .u64 76 (w8 n) by subst hWS; exact HG1.out.other (setRow_other _ _ _ _ (by omega)))
        have H2 := Lib.hid (show RW ws (N + 1) .u64 64 (zer 4) by subst hWS; exact HG2.out.other (setRow_other _ _ _ _ (by omega)))
        have H3 := Lib.hid (show RW ws (N + 1 + 1) .u64 64 (w4 d) by subst hWS; exact HG3.out.other (setRow_other _ _ _ _ (by omega)))
        have HM := Lib.hid (show RW ws M .u64 64 (w4 r) by subst hWS; exact setRow_heap _ _ _ _ _ _ HOM.out)
        have HSB := Lib.hid (show Below N w ws by subst hWS; exact Below.setRow HGB.out (by omega) _)
        clear hWS HG1 HG2 HG3 HGB HOM
        refine ⟨?_⟩
        go_wp2_with fail
        go_roundw
        case rel => exact ⟨k, rfl, by omega, H1.out, H2.out, HV.out ▸ H3.out, HSB.out⟩
        case measure => simp [intOf]
      · obtain ⟨r, hr⟩ : ∃ r, d - 7237005577332262213973186563042994240857116359379907606001950938285454250989 = r := ⟨_, rfl⟩
        have HMI := Lib.hid (fun w => takeR_any d 7237005577332262213973186563042994240857116359379907606001950938285454250989 r 0 w (by have := HDL.out; omega) (by decide) (by have := HDL.out; omega) (by have := HDL.out; omega) (by decide))
        have HSR := Lib.hid (sR r)
        have HV := Lib.hid (show r = n / 2 ^ k % 7237005577332262213973186563042994240857116359379907606001950938285454250989 by rw [← HNB.out]; have := HDL.out; omega)
        clear hr hdl
        refine wp_region_upA 7 5 6 [0, 1, 2, 3, 4, 5] _ (.cells (nums .u64 (zer 4)) 64) (by kernel_rfl) (by kernel_rfl) (fun _ _ dst _ _ h => by cases dst <;> exact h) rfl (fun a w K hK => wpOp_of_run rfl rfl (run_allocR a _ rfl w) hK) rfl ?_
        simp only [List.take_succ_cons, List.take_zero, List.drop_succ_cons, List.drop_zero, List.eraseIdx_cons_succ, List.eraseIdx_cons_zero]
        refine upW_val (by rfl) (by rfl) (by rfl) (fun K hK => quiet_load_row _ _ rfl (N + 1 + 1) rfl 64 _ (0, 0) _ HF3.out Try.underlying64 rfl HSD.out (hK _ ?_))
        simp only [Act.put, List.setIfInBounds_toArray, List.set]
        refine upW_call (by rfl) (by rfl) (.agg (nums .u64 (w4 7237005577332262213973186563042994240857116359379907606001950938285454250989))) _ rfl (by simp) (fun p => ?_) ?_
        · go_big_quiet_op
          exact ⟨_, fun q => Calls.ext_of (HOR.out q.x), rfl⟩
        simp only [Act.put, List.setIfInBounds_toArray, List.set]
        refine upW_call (by rfl) (by rfl) (.tuple #[.agg (nums .u64 (w4 r)), .int .u64 0]) _ rfl (by simp) (fun p => ?_) ?_
        · go_big_quiet_op
          exact ⟨_, fun q => Calls.ext_of (HMI.out q.x), rfl⟩
        simp only [Act.put, List.setIfInBounds_toArray, List.set]
        refine upW_val (by rfl) (by rfl) (by rfl) ?_
        intro K hK
        go_big_quiet_op
        refine hK _ ?_
        refine upW_late (by rfl) (.agg (nums .u64 (w4 r))) (fun _ => rfl) ?_
        simp only [Act.put, List.setIfInBounds_toArray, List.set]
        refine upW_late (by rfl) (.int .u64 0) (fun _ => rfl) ?_
        simp only [Act.put, List.setIfInBounds_toArray, List.set]
        refine upW_nil (fun M wm hM hbm hom => ?_)
        simp only [List.setIfInBounds_toArray]
        have HOM := Lib.hid hom
        have hM1 : N + 1 + 1 < M := Nat.lt_of_lt_of_le HF3.out.lt hM
        have HG1 := Lib.hid (HF1.out.ext hbm)
        have HG2 := Lib.hid (HF2.out.ext hbm)
        have HG3 := Lib.hid (HF3.out.ext hbm)
        have HGB := Lib.hid (HFB.out.trans (hbm.mono (show N ≤ _ by have := HF3.out.lt; omega)))
        clear hom hbm hM HF1 HF2 HF3 HFB
        go_wp2_with (refine wpList_store_row rfl 64 _ _ rfl M (nums .u64 (w4 r)) rfl rfl 64 _ HOM.out HSR.out ?hold (nums_one _ _) (Stop.out ?_))
        case hold => rw [size_nums, size_nums, zer_len]; rfl
        generalize hWS : World.setRow _ _ _ = ws
        have H1 := Lib.hid (show RW ws N .u64 76 (w8 n) by subst hWS; exact HG1.out.other (setRow_other _ _ _ _ (by omega)))
        have H2 := Lib.hid (show RW ws (N + 1) .u64 64 (zer 4) by subst hWS; exact HG2.out.other (setRow_other _ _ _ _ (by omega)))
        have H3 := Lib.hid (show RW ws (N + 1 + 1) .u64 64 (w4 d) by subst hWS; exact HG3.out.other (setRow_other _ _ _ _ (by omega)))
        have HM := Lib.hid (show RW ws M .u64 64 (w4 r) by subst hWS; exact setRow_heap _ _ _ _ _ _ HOM.out)
        have HSB := Lib.hid (show Below N w ws by subst hWS; exact Below.setRow HGB.out (by omega) _)
        clear hWS HG1 HG2 HG3 HGB HOM
        refine ⟨?_⟩
        have HO := Lib.hid (show (nums .u64 (w4 d)).size = (nums .u64 (w4 r)).size by rw [size_nums, size_nums, w4_len, w4_len])
        go_wp2_with (first
          | (refine wpList_load_row rfl 64 _ rfl M rfl 64 (nums .u64 (w4 r)) (0, 0) _ HM.out Try.underlying64 rfl HSR.out ?_)
          | (refine wpList_store_row rfl 64 _ _ rfl (N + 1 + 1) (nums .u64 (w4 r)) rfl rfl 64 _ H3.out HSR.out HO.out (nums_one _ _) ?_)
          )
        go_roundw
        case rel => exact ⟨k, rfl, by omega, H1.out.other (setRow_other _ _ _ _ (by omega)), H2.out.other (setRow_other _ _ _ _ (by omega)), HV.out ▸ setRow_heap _ _ _ _ _ _ H3.out, Below.setRow HSB.out (by omega) _⟩
        case measure => simp [intOf]
set_option maxRecDepth 100000 in
set_option maxHeartbeats 1000000 in
theorem small_any (n : Nat) (w : World) (hn : n < 115792089237316195423570985008687907853269984665640564039457584007913129639936) :
    Calls Try.prog 72 #[.agg (nums .u64 (w4 n))] w fun e w' => e = .returned (.agg (nums .u64 (w4 (n % 7237005577332262213973186563042994240857116359379907606001950938285454250989)))) ∧ Below w.heap.size w w' := by
  have HRL := Lib.hid (fun w => restL_any n w (by omega))
  rw [w8_w4 n hn] at HRL
  obtain ⟨a, b, c, d, _, _, _, _, _, hw⟩ := w4_parts n hn
  obtain ⟨x, hx⟩ : ∃ x, n % 7237005577332262213973186563042994240857116359379907606001950938285454250989 = x := ⟨_, rfl⟩
  rw [hx] at HRL
  rw [hx, hw]
  rw [hw] at HRL
  have HSX := Lib.hid (sR x)
  have HO := Lib.hid (show (nums .u64 (zer 4)).size = (nums .u64 (w4 x)).size by rw [size_nums, size_nums, zer_len, w4_len])
  have HRL2 : Hid (∀ w, Calls Try.prog 70 #[.agg (nums .u64 [a, b, c, d, 0, 0, 0, 0])] w fun e w' => e = .returned (.agg (nums .u64 (w4 x))) ∧ Below w.heap.size w w') := HRL
  have hz := zR
  clear hn hx hw HRL
  go_enter Try.func72, Try.ntmps72
  go_upto_region 1 with fail
  generalize hW1 : World.alloc _ _ = W1
  obtain ⟨N, hN⟩ : ∃ n, w.heap.size = n := ⟨_, rfl⟩
  have HR1 := Lib.hid (show RW W1 N .u64 64 [a, b, c, d] by subst hW1; rw [← hN]; exact (alloc2_at w _ _).1)
  have HR2 := Lib.hid (show RW W1 (N + 1) .u64 64 (zer 4) by subst hW1; rw [← hN]; exact (alloc2_at w _ _).2)
  have HB1 := Lib.hid (show Below N w W1 by subst hW1; rw [← hN]; exact ((Below.refl _ w).alloc (Nat.le_refl _) _).alloc (by simp) _)
  have c0 := HR1.out.cell (i := 0) (by show 0 < 4; decide)
  have c1 := HR1.out.cell (i := 1) (by show 1 < 4; decide)
  have c2 := HR1.out.cell (i := 2) (by show 2 < 4; decide)
  have c3 := HR1.out.cell (i := 3) (by show 3 < 4; decide)
  simp only [List.getD_cons_zero, List.getD_cons_succ] at c0 c1 c2 c3
  have HN := Lib.hid hN
  rw [hN]
  clear hW1 hN hz
  go_wp2_with (refine wpList_build' rfl 76 _ rfl (nums .u64 [a, b, c, d, 0, 0, 0, 0]) (by kernel_rfl) ?_)
  refine (HRL2.out _).mono ?_
  rintro e w2 ⟨rfl, hb2⟩
  have HZ := Lib.hid (HR2.out.ext hb2)
  have HB2 := Lib.hid (HB1.out.trans (hb2.mono (show N ≤ _ by have := HR2.out.lt; omega)))
  clear hb2 HR1 HR2 HB1 c0 c1 c2 c3
  go_wp2_with (refine wpList_store_row rfl 64 _ _ rfl (N + 1) (nums .u64 (w4 x)) rfl rfl 64 _ HZ.out HSX.out HO.out (nums_one _ _) ?_)
  refine bodyPost_ret (results_cell_row (by rfl) _ _ (N + 1) 64 (nums .u64 (w4 x)) (0, 0) _ (by rfl) (setRow_heap _ _ _ _ _ _ HZ.out) Try.underlying64 rfl HSX.out) rfl ⟨rfl, ?_⟩
  rw [HN.out]
  exact Below.setRow HB2.out (by omega) _
end Go.Proofs.Ytgajheocobgecaa
