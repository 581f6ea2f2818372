/-
  The document's open: what bytes say of a point.
  Conditions: none.
-/
import Derived.Test.YtfmclkmmkceldaaCvT
import Derived.Test.YtfmclkmmkceldaaCvE
namespace Go.Proofs.Ytfmclkmmkceldaa
open Go.RowKit

set_option linter.unusedSimpArgs false
set_option linter.unusedVariables false
set_option maxRecDepth 100000 in
set_option maxHeartbeats 1000000 in
theorem open_a (n m : Nat) (o : Bool) (hn : n < 115792089237316195423570985008687907853269984665640564039457584007913129639936) (hm : n % 57896044618658097711785492504343953926634992332820282019728792003956564819968 = m) (ho : decide (57896044618658097711785492504343953926634992332820282019728792003956564819968 ≤ n) = o) (hg : ¬ m < PP) (w : World) :
    Calls Try.prog 76 #[.agg (PB n)] w fun e w' => e = .returned (.tuple #[.agg (WR 0 0 0 0), .bool false]) ∧ Below w.heap.size w w' := by
  obtain ⟨v, hv⟩ : ∃ v, n / 452312848583266388373324160190187140051835877600158453279131187530910662656 = v := ⟨_, rfl⟩
  have HV := Lib.hid (show (PB n)[31]? = some (.int .u8 (v : Int)) by rw [← hv]; exact PB_31 n hn)
  have HV2 := Lib.hid (show v < 256 by omega)
  obtain ⟨n2, hn2⟩ : ∃ k, k = m := ⟨_, rfl⟩
  have HW := Lib.hid (show (PB n).setIfInBounds 31 (.int .u8 ((v % 128 : Nat) : Int)) = PB n2 from PB_set31 n n2 (v % 128) hn (by omega) (by omega))
  have HML := Lib.hid (show n2 < 115792089237316195423570985008687907853269984665640564039457584007913129639936 by omega)
  have HO := Lib.hid (show (!(((v / 128 * 128 : Nat) : Int) == 0)) = o by
    rw [← ho, Bool.eq_iff_iff]
    simp
    omega)
  clear hv
  have HNE := Lib.hid (show (!decide ((fp n2).val = n2)) = true by
    have := (fp n2).isLt
    rw [decide_eq_false (by omega)]; rfl)
  clear hn hm ho hg hn2
  have HQ1 := Lib.hid (fun w => PB.from n2 HML.out w)
  have HQ2 := Lib.hid (fun w => WN.rest n2 HML.out w)
  have hz0 := zPo
  have hz1 := zWo
  go_enter Try.func76, Try.ntmps76
  go_upto_region 1 with fail
  generalize hW1 : World.alloc _ _ = W1
  obtain ⟨N, hN⟩ : ∃ n, w.heap.size = n := ⟨_, rfl⟩
  have HX0 := Lib.hid (show CT W1 N 23 (PB n) by subst hW1; rw [← hN]; exact (allocs2_at w _ _).1)
  have HX1 := Lib.hid (show CT W1 (N + 1) 88 (WR 0 0 0 0) by subst hW1; rw [← hN]; exact (allocs2_at w _ _).2)
  have HB := Lib.hid (show Below N w W1 by subst hW1; rw [← hN]; exact allocs2_below w _ _)
  have HN := Lib.hid hN
  rw [hN]
  clear hW1 hN
  refine wp_region_seq 4 ?_
  simp only [List.take_succ_cons, List.take_zero, List.drop_succ_cons, List.drop_zero]
  refine upW_late (by rfl) (.pointer (some ⟨N, 31, none⟩)) (fun _ => by kernel_rfl) ?_
  simp only [Act.put, List.setIfInBounds_toArray, List.set]
  refine upW_val (by rfl) (by rfl) (by rfl) (fun K hK => quiet_load_byte _ rfl N 31 rfl 23 (PB n) HX0.out (.int .u8 (v : Int)) HV.out (hK _ ?_))
  simp only [Act.put, List.setIfInBounds_toArray, List.set]
  refine upW_late (by rfl) (.int .u8 ((v / 128 * 128 : Nat) : Int)) (fun w => run_and8 _ _ _ _ _ rfl (v : Int) 128 rfl rfl ((v / 128 * 128 : Nat) : Int) (and128 v HV2.out) w) ?_
  simp only [Act.put, List.setIfInBounds_toArray, List.set]
  refine upW_late (by rfl) (.bool o) (fun w => run_neq8 _ _ _ _ rfl ((v / 128 * 128 : Nat) : Int) 0 rfl rfl o HO.out w) ?_
  simp only [Act.put, List.setIfInBounds_toArray, List.set]
  refine upW_nil (fun wr1 hbr1 => ?_)
  replace HX0 := Lib.hid (HX0.out.ext hbr1)
  replace HX1 := Lib.hid (HX1.out.ext hbr1)
  replace HB := Lib.hid (HB.out.trans (hbr1.mono (show N ≤ _ by have := HB.out.size; have := HN.out; omega)))
  clear hbr1
  go_upto_region 2 with fail
  refine wp_region_seq 4 ?_
  simp only [List.take_succ_cons, List.take_zero, List.drop_succ_cons, List.drop_zero]
  refine upW_late (by rfl) (.pointer (some ⟨N, 31, none⟩)) (fun _ => by kernel_rfl) ?_
  simp only [Act.put, List.setIfInBounds_toArray, List.set]
  refine upW_val (by rfl) (by rfl) (by rfl) (fun K hK => quiet_load_byte _ rfl N 31 rfl 23 (PB n) HX0.out (.int .u8 (v : Int)) HV.out (hK _ ?_))
  simp only [Act.put, List.setIfInBounds_toArray, List.set]
  refine upW_late (by rfl) (.int .u8 ((v % 128 : Nat) : Int)) (fun w => run_and8 _ _ _ _ _ rfl (v : Int) 127 rfl rfl ((v % 128 : Nat) : Int) (and127 v HV2.out) w) ?_
  simp only [Act.put, List.setIfInBounds_toArray, List.set]
  refine upW_late (by rfl) (.pointer (some ⟨N, 31, none⟩)) (fun _ => by kernel_rfl) ?_
  simp only [Act.put, List.setIfInBounds_toArray, List.set]
  refine upW_nil (fun wr2 hbr2 => ?_)
  replace HX0 := Lib.hid (HX0.out.ext hbr2)
  replace HX1 := Lib.hid (HX1.out.ext hbr2)
  replace HB := Lib.hid (HB.out.trans (hbr2.mono (show N ≤ _ by have := HB.out.size; have := HN.out; omega)))
  clear hbr2
  refine wpList_store_byte rfl _ _ rfl N 31 rfl ((v % 128 : Nat) : Int) rfl 23 (PB n) (PB n2) HX0.out (by rw [(PB_rw n).size]; decide) HW.out rfl (fun wr3 hSwr3 hOwr3 hWwr3 => ?_)
  replace HX0 := Lib.hid hSwr3
  replace HB := Lib.hid (hWwr3 _ _ HB.out (by omega))
  replace HX1 := Lib.hid (HX1.out.other (hOwr3 _ (by omega)))
  clear hSwr3 hOwr3 hWwr3
  go_upto_region 3 with fail
  refine wp_region_seq 2 ?_
  simp only [List.take_succ_cons, List.take_zero, List.drop_succ_cons, List.drop_zero]
  refine upW_val (by rfl) (by rfl) (by rfl) (fun K hK => quiet_load_ct _ _ rfl N rfl 23 (PB n2) 32 (PB_rw n2) _ HX0.out Try.underlying23 rfl (by kernel_rfl) (hK _ ?_))
  simp only [Act.put, List.setIfInBounds_toArray, List.set]
  refine upW_call (by rfl) (by rfl) (.agg (WN n2)) _ rfl (by simp) (fun p => ?_) ?_
  · go_big_quiet_op
    exact ⟨_, fun q => Calls.ext_of (HQ1.out q.x), rfl⟩
  simp only [Act.put, List.setIfInBounds_toArray, List.set]
  refine upW_nil (fun wr4 hbr4 => ?_)
  replace HX0 := Lib.hid (HX0.out.ext hbr4)
  replace HX1 := Lib.hid (HX1.out.ext hbr4)
  replace HB := Lib.hid (HB.out.trans (hbr4.mono (show N ≤ _ by have := HB.out.size; have := HN.out; omega)))
  clear hbr4
  refine wpList_new1 rfl 86 rfl (WB 0) zWo rfl _ _ rfl rfl (WN n2) 4 (WN_rw n2) (WB_rw 0).size (by kernel_rfl) rfl rfl (fun B5 wr5 hB5 hbr5 hCB5 => ?_)
  have HB5 := Lib.hid hCB5
  have hlB5X0 : N < B5 := by rw [← hB5]; exact HX0.out.lt
  have hlB5X1 : (N + 1) < B5 := by rw [← hB5]; exact HX1.out.lt
  have hNB5 : N ≤ B5 := by rw [← hB5]; have := HB.out.size; have := HN.out; omega
  clear hB5 hCB5
  simp only [Act.put, List.setIfInBounds_toArray, List.set]
  replace HX0 := Lib.hid (HX0.out.ext hbr5)
  replace HX1 := Lib.hid (HX1.out.ext hbr5)
  replace HB := Lib.hid (HB.out.trans (hbr5.mono (show N ≤ _ by have := HB.out.size; have := HN.out; omega)))
  clear hbr5
  go_upto_region 4 with fail
  refine wp_region_whole [0, 1, 2, 3] [] [] (by kernel_rfl) (by kernel_rfl) (List.forall_mem_nil _) rfl ?_
  simp only [List.foldl]
  refine upW_val (by rfl) (by rfl) (by rfl) (fun K hK => quiet_load_ct _ _ rfl B5 rfl 86 (WN n2) 4 (WN_rw n2) _ HB5.out Try.underlying86 rfl (by kernel_rfl) (hK _ ?_))
  simp only [Act.put, List.setIfInBounds_toArray, List.set]
  refine upW_call (by rfl) (by rfl) (.agg (WB (fp n2))) _ rfl (by simp) (fun p => ?_) ?_
  · go_big_quiet_op
    exact ⟨_, fun q => Calls.ext_of (HQ2.out q.x), rfl⟩
  simp only [Act.put, List.setIfInBounds_toArray, List.set]
  refine upW_val (by rfl) (by rfl) (by rfl) (fun K hK => quiet_load_ct _ _ rfl B5 rfl 86 (WN n2) 4 (WN_rw n2) _ HB5.out Try.underlying86 rfl (by kernel_rfl) (hK _ ?_))
  simp only [Act.put, List.setIfInBounds_toArray, List.set]
  refine upW_late (by rfl) (.bool true) (fun w => run_neW4 _ _ _ _ rfl (fp n2).val n2 rfl rfl (fp n2).lt256 HML.out true HNE.out w) ?_
  simp only [Act.put, List.setIfInBounds_toArray, List.set]
  refine upW_nil ⟨List.forall_mem_nil _, fun M2 wr6 hM2 hne hbr6 => ?_⟩
  simp only [List.foldr]
  clear hM2 hne M2
  replace HX0 := Lib.hid (HX0.out.ext hbr6)
  replace HX1 := Lib.hid (HX1.out.ext hbr6)
  replace HB5 := Lib.hid (HB5.out.ext hbr6)
  replace HB := Lib.hid (HB.out.trans (hbr6.mono (show N ≤ _ by have := HB.out.size; have := HN.out; omega)))
  clear hbr6
  go_upto_region 5 with fail
  refine wp_region_seq 1 ?_
  simp only [List.take_succ_cons, List.take_zero, List.drop_succ_cons, List.drop_zero]
  refine upW_late (by rfl) (.agg (WR 0 0 0 0)) (fun w => run_built _ _ _ _ rfl _ (by kernel_rfl) w) ?_
  simp only [Act.put, List.setIfInBounds_toArray, List.set]
  refine upW_nil (fun wr7 hbr7 => ?_)
  replace HX0 := Lib.hid (HX0.out.ext hbr7)
  replace HX1 := Lib.hid (HX1.out.ext hbr7)
  replace HB5 := Lib.hid (HB5.out.ext hbr7)
  replace HB := Lib.hid (HB.out.trans (hbr7.mono (show N ≤ _ by have := HB.out.size; have := HN.out; omega)))
  clear hbr7
  refine wpList_store_ct rfl 88 _ _ rfl (N + 1) (WR 0 0 0 0) rfl rfl 88 (WR 0 0 0 0) 16 HX1.out (by kernel_rfl) (WR_rw 0 0 0 0) (WR_rw 0 0 0 0) rfl (fun wr8 hSwr8 hOwr8 hWwr8 => ?_)
  replace HX1 := Lib.hid hSwr8
  replace HB := Lib.hid (hWwr8 _ _ HB.out (by omega))
  replace HX0 := Lib.hid (HX0.out.other (hOwr8 _ (by omega)))
  replace HB5 := Lib.hid (HB5.out.other (hOwr8 _ (by omega)))
  clear hSwr8 hOwr8 hWwr8
  go_wp2
  refine bodyPost_ret (results_ct_slot (p := 2) (q := 3) (by rfl) _ _ (N + 1) 88 (WR 0 0 0 0) 16 _ (.bool false) (by rfl) HX1.out (WR_rw 0 0 0 0) Try.underlying88 rfl (by kernel_rfl) rfl) rfl ⟨by first | rfl | (rfl), by rw [HN.out]; exact HB.out⟩
set_option maxRecDepth 100000 in
set_option maxHeartbeats 1000000 in
theorem open_b (n m : Nat) (o : Bool) (hn : n < 115792089237316195423570985008687907853269984665640564039457584007913129639936) (hm : n % 57896044618658097711785492504343953926634992332820282019728792003956564819968 = m) (ho : decide (57896044618658097711785492504343953926634992332820282019728792003956564819968 ≤ n) = o) (y : Fp) (hy : y.val = m) (hf : fis (sqx y) = false) (w : World) :
    Calls Try.prog 76 #[.agg (PB n)] w fun e w' => e = .returned (.tuple #[.agg (WR 0 0 0 0), .bool false]) ∧ Below w.heap.size w w' := by
  obtain ⟨v, hv⟩ : ∃ v, n / 452312848583266388373324160190187140051835877600158453279131187530910662656 = v := ⟨_, rfl⟩
  have HV := Lib.hid (show (PB n)[31]? = some (.int .u8 (v : Int)) by rw [← hv]; exact PB_31 n hn)
  have HV2 := Lib.hid (show v < 256 by omega)
  obtain ⟨n2, hn2⟩ : ∃ k, k = m := ⟨_, rfl⟩
  have HW := Lib.hid (show (PB n).setIfInBounds 31 (.int .u8 ((v % 128 : Nat) : Int)) = PB n2 from PB_set31 n n2 (v % 128) hn (by omega) (by omega))
  have HML := Lib.hid (show n2 < 115792089237316195423570985008687907853269984665640564039457584007913129639936 by omega)
  have HO := Lib.hid (show (!(((v / 128 * 128 : Nat) : Int) == 0)) = o by
    rw [← ho, Bool.eq_iff_iff]
    simp
    omega)
  clear hv
  obtain rfl : n2 = y.val := by omega
  have HNE := Lib.hid (show (!decide (y.val = y.val)) = false by simp)
  have HFI := Lib.hid hf
  obtain ⟨r, hr⟩ : ∃ r : Fp, frt (sqx y) = r := ⟨_, rfl⟩
  have HRT := Lib.hid hr
  clear hn hm ho hf hr hy hn2
  have HQ1 := Lib.hid (fun w => PB.fromB y w)
  have HQ2 := Lib.hid (fun w => WB.rest y w)
  obtain ⟨c3, hc3⟩ : ∃ zq : Fp, zq = y * y := ⟨_, rfl⟩
  have HE3 := Lib.hid hc3
  clear hc3
  have HQ4 := Lib.hid (fun w => WB.mul y y w)
  rw [← HE3.out] at HQ4
  obtain ⟨c5, hc5⟩ : ∃ zq : Fp, zq = c3 - 1 := ⟨_, rfl⟩
  have HE5 := Lib.hid hc5
  clear hc5
  have HQ6 := Lib.hid (fun w => WB.sub c3 1 w)
  rw [← HE5.out] at HQ6
  obtain ⟨c7, hc7⟩ : ∃ zq : Fp, zq = cD * c3 := ⟨_, rfl⟩
  have HE7 := Lib.hid hc7
  clear hc7
  have HQ8 := Lib.hid (fun w => WB.mul cD c3 w)
  rw [← HE7.out] at HQ8
  obtain ⟨c9, hc9⟩ : ∃ zq : Fp, zq = c7 + 1 := ⟨_, rfl⟩
  have HE9 := Lib.hid hc9
  clear hc9
  have HQ10 := Lib.hid (fun w => WB.add c7 1 w)
  rw [← HE9.out] at HQ10
  obtain ⟨c11, hc11⟩ : ∃ zq : Fp, zq = finv c9 := ⟨_, rfl⟩
  have HE11 := Lib.hid hc11
  clear hc11
  have HQ12 := Lib.hid (fun w => WB.inv c9 w)
  rw [← HE11.out] at HQ12
  obtain ⟨c13, hc13⟩ : ∃ zq : Fp, zq = c5 * c11 := ⟨_, rfl⟩
  have HE13 := Lib.hid hc13
  clear hc13
  have HQ14 := Lib.hid (fun w => WB.mul c5 c11 w)
  rw [← HE13.out] at HQ14
  have HQ15 := Lib.hid (fun w => WB.root c13 w)
  rw [show fis c13 = false by simp only [HE3.out, HE5.out, HE7.out, HE9.out, HE11.out, HE13.out]; exact HFI.out, show frt c13 = r by simp only [HE3.out, HE5.out, HE7.out, HE9.out, HE11.out, HE13.out]; exact HRT.out] at HQ15
  have hz0 := zPo
  have hz1 := zWo
  go_enter Try.func76, Try.ntmps76
  go_upto_region 1 with fail
  generalize hW1 : World.alloc _ _ = W1
  obtain ⟨N, hN⟩ : ∃ n, w.heap.size = n := ⟨_, rfl⟩
  have HX0 := Lib.hid (show CT W1 N 23 (PB n) by subst hW1; rw [← hN]; exact (allocs2_at w _ _).1)
  have HX1 := Lib.hid (show CT W1 (N + 1) 88 (WR 0 0 0 0) by subst hW1; rw [← hN]; exact (allocs2_at w _ _).2)
  have HB := Lib.hid (show Below N w W1 by subst hW1; rw [← hN]; exact allocs2_below w _ _)
  have HN := Lib.hid hN
  rw [hN]
  clear hW1 hN
  refine wp_region_seq 4 ?_
  simp only [List.take_succ_cons, List.take_zero, List.drop_succ_cons, List.drop_zero]
  refine upW_late (by rfl) (.pointer (some ⟨N, 31, none⟩)) (fun _ => by kernel_rfl) ?_
  simp only [Act.put, List.setIfInBounds_toArray, List.set]
  refine upW_val (by rfl) (by rfl) (by rfl) (fun K hK => quiet_load_byte _ rfl N 31 rfl 23 (PB n) HX0.out (.int .u8 (v : Int)) HV.out (hK _ ?_))
  simp only [Act.put, List.setIfInBounds_toArray, List.set]
  refine upW_late (by rfl) (.int .u8 ((v / 128 * 128 : Nat) : Int)) (fun w => run_and8 _ _ _ _ _ rfl (v : Int) 128 rfl rfl ((v / 128 * 128 : Nat) : Int) (and128 v HV2.out) w) ?_
  simp only [Act.put, List.setIfInBounds_toArray, List.set]
  refine upW_late (by rfl) (.bool o) (fun w => run_neq8 _ _ _ _ rfl ((v / 128 * 128 : Nat) : Int) 0 rfl rfl o HO.out w) ?_
  simp only [Act.put, List.setIfInBounds_toArray, List.set]
  refine upW_nil (fun wr1 hbr1 => ?_)
  replace HX0 := Lib.hid (HX0.out.ext hbr1)
  replace HX1 := Lib.hid (HX1.out.ext hbr1)
  replace HB := Lib.hid (HB.out.trans (hbr1.mono (show N ≤ _ by have := HB.out.size; have := HN.out; omega)))
  clear hbr1
  go_upto_region 2 with fail
  refine wp_region_seq 4 ?_
  simp only [List.take_succ_cons, List.take_zero, List.drop_succ_cons, List.drop_zero]
  refine upW_late (by rfl) (.pointer (some ⟨N, 31, none⟩)) (fun _ => by kernel_rfl) ?_
  simp only [Act.put, List.setIfInBounds_toArray, List.set]
  refine upW_val (by rfl) (by rfl) (by rfl) (fun K hK => quiet_load_byte _ rfl N 31 rfl 23 (PB n) HX0.out (.int .u8 (v : Int)) HV.out (hK _ ?_))
  simp only [Act.put, List.setIfInBounds_toArray, List.set]
  refine upW_late (by rfl) (.int .u8 ((v % 128 : Nat) : Int)) (fun w => run_and8 _ _ _ _ _ rfl (v : Int) 127 rfl rfl ((v % 128 : Nat) : Int) (and127 v HV2.out) w) ?_
  simp only [Act.put, List.setIfInBounds_toArray, List.set]
  refine upW_late (by rfl) (.pointer (some ⟨N, 31, none⟩)) (fun _ => by kernel_rfl) ?_
  simp only [Act.put, List.setIfInBounds_toArray, List.set]
  refine upW_nil (fun wr2 hbr2 => ?_)
  replace HX0 := Lib.hid (HX0.out.ext hbr2)
  replace HX1 := Lib.hid (HX1.out.ext hbr2)
  replace HB := Lib.hid (HB.out.trans (hbr2.mono (show N ≤ _ by have := HB.out.size; have := HN.out; omega)))
  clear hbr2
  refine wpList_store_byte rfl _ _ rfl N 31 rfl ((v % 128 : Nat) : Int) rfl 23 (PB n) (PB y.val) HX0.out (by rw [(PB_rw n).size]; decide) HW.out rfl (fun wr3 hSwr3 hOwr3 hWwr3 => ?_)
  replace HX0 := Lib.hid hSwr3
  replace HB := Lib.hid (hWwr3 _ _ HB.out (by omega))
  replace HX1 := Lib.hid (HX1.out.other (hOwr3 _ (by omega)))
  clear hSwr3 hOwr3 hWwr3
  go_upto_region 3 with fail
  refine wp_region_seq 2 ?_
  simp only [List.take_succ_cons, List.take_zero, List.drop_succ_cons, List.drop_zero]
  refine upW_val (by rfl) (by rfl) (by rfl) (fun K hK => quiet_load_ct _ _ rfl N rfl 23 (PB y.val) 32 (PB_rw y.val) _ HX0.out Try.underlying23 rfl (by kernel_rfl) (hK _ ?_))
  simp only [Act.put, List.setIfInBounds_toArray, List.set]
  refine upW_call (by rfl) (by rfl) (.agg (WB y)) _ rfl (by simp) (fun p => ?_) ?_
  · go_big_quiet_op
    exact ⟨_, fun q => Calls.ext_of (HQ1.out q.x), rfl⟩
  simp only [Act.put, List.setIfInBounds_toArray, List.set]
  refine upW_nil (fun wr4 hbr4 => ?_)
  replace HX0 := Lib.hid (HX0.out.ext hbr4)
  replace HX1 := Lib.hid (HX1.out.ext hbr4)
  replace HB := Lib.hid (HB.out.trans (hbr4.mono (show N ≤ _ by have := HB.out.size; have := HN.out; omega)))
  clear hbr4
  refine wpList_new1 rfl 86 rfl (WB 0) zWo rfl _ _ rfl rfl (WB y) 4 (WB_rw y) (WB_rw 0).size (by kernel_rfl) rfl rfl (fun B5 wr5 hB5 hbr5 hCB5 => ?_)
  have HB5 := Lib.hid hCB5
  have hlB5X0 : N < B5 := by rw [← hB5]; exact HX0.out.lt
  have hlB5X1 : (N + 1) < B5 := by rw [← hB5]; exact HX1.out.lt
  have hNB5 : N ≤ B5 := by rw [← hB5]; have := HB.out.size; have := HN.out; omega
  clear hB5 hCB5
  simp only [Act.put, List.setIfInBounds_toArray, List.set]
  replace HX0 := Lib.hid (HX0.out.ext hbr5)
  replace HX1 := Lib.hid (HX1.out.ext hbr5)
  replace HB := Lib.hid (HB.out.trans (hbr5.mono (show N ≤ _ by have := HB.out.size; have := HN.out; omega)))
  clear hbr5
  go_upto_region 4 with fail
  refine wp_region_whole [0, 1, 2, 3] [] [] (by kernel_rfl) (by kernel_rfl) (List.forall_mem_nil _) rfl ?_
  simp only [List.foldl]
  refine upW_val (by rfl) (by rfl) (by rfl) (fun K hK => quiet_load_ct _ _ rfl B5 rfl 86 (WB y) 4 (WB_rw y) _ HB5.out Try.underlying86 rfl (by kernel_rfl) (hK _ ?_))
  simp only [Act.put, List.setIfInBounds_toArray, List.set]
  refine upW_call (by rfl) (by rfl) (.agg (WB y)) _ rfl (by simp) (fun p => ?_) ?_
  · go_big_quiet_op
    exact ⟨_, fun q => Calls.ext_of (HQ2.out q.x), rfl⟩
  simp only [Act.put, List.setIfInBounds_toArray, List.set]
  refine upW_val (by rfl) (by rfl) (by rfl) (fun K hK => quiet_load_ct _ _ rfl B5 rfl 86 (WB y) 4 (WB_rw y) _ HB5.out Try.underlying86 rfl (by kernel_rfl) (hK _ ?_))
  simp only [Act.put, List.setIfInBounds_toArray, List.set]
  refine upW_late (by rfl) (.bool false) (fun w => run_neW4 _ _ _ _ rfl y.val y.val rfl rfl y.lt256 y.lt256 false HNE.out w) ?_
  simp only [Act.put, List.setIfInBounds_toArray, List.set]
  refine upW_nil ⟨List.forall_mem_nil _, fun M2 wr6 hM2 hne hbr6 => ?_⟩
  simp only [List.foldr]
  clear hM2 hne M2
  replace HX0 := Lib.hid (HX0.out.ext hbr6)
  replace HX1 := Lib.hid (HX1.out.ext hbr6)
  replace HB5 := Lib.hid (HB5.out.ext hbr6)
  replace HB := Lib.hid (HB.out.trans (hbr6.mono (show N ≤ _ by have := HB.out.size; have := HN.out; omega)))
  clear hbr6
  go_upto_region 6 with fail
  refine wp_region_seq 3 ?_
  simp only [List.take_succ_cons, List.take_zero, List.drop_succ_cons, List.drop_zero]
  refine upW_val (by rfl) (by rfl) (by rfl) (fun K hK => quiet_load_ct _ _ rfl B5 rfl 86 (WB y) 4 (WB_rw y) _ HB5.out Try.underlying86 rfl (by kernel_rfl) (hK _ ?_))
  simp only [Act.put, List.setIfInBounds_toArray, List.set]
  refine upW_val (by rfl) (by rfl) (by rfl) (fun K hK => quiet_load_ct _ _ rfl B5 rfl 86 (WB y) 4 (WB_rw y) _ HB5.out Try.underlying86 rfl (by kernel_rfl) (hK _ ?_))
  simp only [Act.put, List.setIfInBounds_toArray, List.set]
  refine upW_call (by rfl) (by rfl) (.agg (WB c3)) _ rfl (by simp) (fun p => ?_) ?_
  · go_big_quiet_op
    exact ⟨_, fun q => Calls.ext_of (HQ4.out q.x), rfl⟩
  simp only [Act.put, List.setIfInBounds_toArray, List.set]
  refine upW_nil (fun wr7 hbr7 => ?_)
  replace HX0 := Lib.hid (HX0.out.ext hbr7)
  replace HX1 := Lib.hid (HX1.out.ext hbr7)
  replace HB5 := Lib.hid (HB5.out.ext hbr7)
  replace HB := Lib.hid (HB.out.trans (hbr7.mono (show N ≤ _ by have := HB.out.size; have := HN.out; omega)))
  clear hbr7
  refine wpList_new1 rfl 86 rfl (WB 0) zWo rfl _ _ rfl rfl (WB c3) 4 (WB_rw c3) (WB_rw 0).size (by kernel_rfl) rfl rfl (fun B8 wr8 hB8 hbr8 hCB8 => ?_)
  have HB8 := Lib.hid hCB8
  have hlB8X0 : N < B8 := by rw [← hB8]; exact HX0.out.lt
  have hlB8X1 : (N + 1) < B8 := by rw [← hB8]; exact HX1.out.lt
  have hlB8B5 : B5 < B8 := by rw [← hB8]; exact HB5.out.lt
  have hNB8 : N ≤ B8 := by rw [← hB8]; have := HB.out.size; have := HN.out; omega
  clear hB8 hCB8
  simp only [Act.put, List.setIfInBounds_toArray, List.set]
  replace HX0 := Lib.hid (HX0.out.ext hbr8)
  replace HX1 := Lib.hid (HX1.out.ext hbr8)
  replace HB5 := Lib.hid (HB5.out.ext hbr8)
  replace HB := Lib.hid (HB.out.trans (hbr8.mono (show N ≤ _ by have := HB.out.size; have := HN.out; omega)))
  clear hbr8
  go_upto_region 7 with fail
  refine wp_region_whole [0, 1, 2, 3, 4, 5, 6, 7, 8, 9, 10, 11, 12, 13, 16] [⟨14, _, 86, (WB 0), 7, 15, _, 86, 39, (WB r)⟩] [15, 14] (by kernel_rfl) (by kernel_rfl) (List.forall_mem_cons.2 ⟨⟨⟨rfl, rfl, rfl, fun a w => alloc_run _ _ zWo a _ rfl w⟩, rfl, rfl, rfl, rfl, (WB_rw r).info (by kernel_rfl), (WB_rw 0).same (WB_rw r), (WB_rw r).one⟩, (List.forall_mem_nil _)⟩) rfl ?_
  simp only [List.foldl, List.eraseIdx_cons_succ, List.eraseIdx_cons_zero]
  refine upW_val (by rfl) (by rfl) (by rfl) (fun K hK => quiet_load_ct _ _ rfl B8 rfl 86 (WB c3) 4 (WB_rw c3) _ HB8.out Try.underlying86 rfl (by kernel_rfl) (hK _ ?_))
  simp only [Act.put, List.setIfInBounds_toArray, List.set]
  refine upW_late (by rfl) (.agg (WB 1)) (fun w => run_built _ _ _ _ rfl _ (by kernel_rfl) w) ?_
  simp only [Act.put, List.setIfInBounds_toArray, List.set]
  refine upW_call (by rfl) (by rfl) (.agg (WB c5)) _ rfl (by simp) (fun p => ?_) ?_
  · go_big_quiet_op
    exact ⟨_, fun q => Calls.ext_of (HQ6.out q.x), rfl⟩
  simp only [Act.put, List.setIfInBounds_toArray, List.set]
  refine upW_call (by rfl) (by rfl) (.agg (WB cD)) _ rfl (by simp) (fun p => ?_) ?_
  · go_big_quiet_op
    exact ⟨_, fun q => Calls.ext_of (dee_any q.x), rfl⟩
  simp only [Act.put, List.setIfInBounds_toArray, List.set]
  refine upW_val (by rfl) (by rfl) (by rfl) (fun K hK => quiet_load_ct _ _ rfl B8 rfl 86 (WB c3) 4 (WB_rw c3) _ HB8.out Try.underlying86 rfl (by kernel_rfl) (hK _ ?_))
  simp only [Act.put, List.setIfInBounds_toArray, List.set]
  refine upW_call (by rfl) (by rfl) (.agg (WB c7)) _ rfl (by simp) (fun p => ?_) ?_
  · go_big_quiet_op
    exact ⟨_, fun q => Calls.ext_of (HQ8.out q.x), rfl⟩
  simp only [Act.put, List.setIfInBounds_toArray, List.set]
  refine upW_late (by rfl) (.agg (WB 1)) (fun w => run_built _ _ _ _ rfl _ (by kernel_rfl) w) ?_
  simp only [Act.put, List.setIfInBounds_toArray, List.set]
  refine upW_call (by rfl) (by rfl) (.agg (WB c9)) _ rfl (by simp) (fun p => ?_) ?_
  · go_big_quiet_op
    exact ⟨_, fun q => Calls.ext_of (HQ10.out q.x), rfl⟩
  simp only [Act.put, List.setIfInBounds_toArray, List.set]
  refine upW_call (by rfl) (by rfl) (.agg (WB c11)) _ rfl (by simp) (fun p => ?_) ?_
  · go_big_quiet_op
    exact ⟨_, fun q => Calls.ext_of (HQ12.out q.x), rfl⟩
  simp only [Act.put, List.setIfInBounds_toArray, List.set]
  refine upW_call (by rfl) (by rfl) (.agg (WB c13)) _ rfl (by simp) (fun p => ?_) ?_
  · go_big_quiet_op
    exact ⟨_, fun q => Calls.ext_of (HQ14.out q.x), rfl⟩
  simp only [Act.put, List.setIfInBounds_toArray, List.set]
  refine upW_call (by rfl) (by rfl) (.tuple #[.agg (WB r), .bool false]) _ rfl (by simp) (fun p => ?_) ?_
  · go_big_quiet_op
    exact ⟨_, fun q => Calls.ext_of (HQ15.out q.x), rfl⟩
  simp only [Act.put, List.setIfInBounds_toArray, List.set]
  refine upW_val (by rfl) (by rfl) (by rfl) ?_
  intro K hK
  go_big_quiet_op
  refine hK _ ?_
  refine upW_late (by rfl) (.agg (WB r)) (fun _ => rfl) ?_
  simp only [Act.put, List.setIfInBounds_toArray, List.set]
  refine upW_late (by rfl) (.bool false) (fun _ => rfl) ?_
  simp only [Act.put, List.setIfInBounds_toArray, List.set]
  refine upW_val (by rfl) (by rfl) (by rfl) ?_
  intro K hK
  go_big_quiet_op
  refine hK _ ?_
  refine upW_nil ⟨(List.forall_mem_cons.2 ⟨rfl, (List.forall_mem_nil _)⟩), fun M wr9 hM hne hbr9 => ?_⟩
  have hm0 := hM _ (List.mem_cons_self ..)
  clear hM hne
  simp only [List.foldr, pS, Act.put, List.setIfInBounds_toArray, List.set]
  obtain ⟨B9x0, hB9x0⟩ : ∃ m, M 14 = m := ⟨_, rfl⟩
  have HB9x0 := Lib.hid (show CT wr9 B9x0 86 (WB r) by rw [← hB9x0]; exact hm0.2)
  have hlB9x0X0 : N < B9x0 := by rw [← hB9x0]; exact Nat.lt_of_lt_of_le HX0.out.lt hm0.1
  have hlB9x0X1 : (N + 1) < B9x0 := by rw [← hB9x0]; exact Nat.lt_of_lt_of_le HX1.out.lt hm0.1
  have hlB9x0B5 : B5 < B9x0 := by rw [← hB9x0]; exact Nat.lt_of_lt_of_le HB5.out.lt hm0.1
  have hlB9x0B8 : B8 < B9x0 := by rw [← hB9x0]; exact Nat.lt_of_lt_of_le HB8.out.lt hm0.1
  have hNB9x0 : N ≤ B9x0 := by rw [← hB9x0]; exact Nat.le_trans (by have := HB.out.size; have := HN.out; omega) hm0.1
  rw [hB9x0]
  clear hm0 hB9x0
  replace HX0 := Lib.hid (HX0.out.ext hbr9)
  replace HX1 := Lib.hid (HX1.out.ext hbr9)
  replace HB5 := Lib.hid (HB5.out.ext hbr9)
  replace HB8 := Lib.hid (HB8.out.ext hbr9)
  replace HB := Lib.hid (HB.out.trans (hbr9.mono (show N ≤ _ by have := HB.out.size; have := HN.out; omega)))
  clear hbr9
  go_upto_region 8 with fail
  refine wp_region_seq 9 ?_
  simp only [List.take_succ_cons, List.take_zero, List.drop_succ_cons, List.drop_zero]
  refine upW_val (by rfl) (by rfl) (by rfl) ?_
  intro K hK
  go_big_quiet_op
  refine hK _ ?_
  refine upW_val (by rfl) (by rfl) (by rfl) ?_
  intro K hK
  go_big_quiet_op
  refine hK _ ?_
  refine upW_val (by rfl) (by rfl) (by rfl) ?_
  intro K hK
  go_big_quiet_op
  refine hK _ ?_
  refine upW_skip (by rfl) ?_
  simp only [Act.put, List.setIfInBounds_toArray, List.set]
  refine upW_skip (by rfl) ?_
  simp only [Act.put, List.setIfInBounds_toArray, List.set]
  refine upW_skip (by rfl) ?_
  simp only [Act.put, List.setIfInBounds_toArray, List.set]
  refine upW_skip (by rfl) ?_
  simp only [Act.put, List.setIfInBounds_toArray, List.set]
  refine upW_skip (by rfl) ?_
  simp only [Act.put, List.setIfInBounds_toArray, List.set]
  refine upW_skip (by rfl) ?_
  simp only [Act.put, List.setIfInBounds_toArray, List.set]
  refine upW_nil (fun wr10 hbr10 => ?_)
  replace HX0 := Lib.hid (HX0.out.ext hbr10)
  replace HX1 := Lib.hid (HX1.out.ext hbr10)
  replace HB5 := Lib.hid (HB5.out.ext hbr10)
  replace HB8 := Lib.hid (HB8.out.ext hbr10)
  replace HB9x0 := Lib.hid (HB9x0.out.ext hbr10)
  replace HB := Lib.hid (HB.out.trans (hbr10.mono (show N ≤ _ by have := HB.out.size; have := HN.out; omega)))
  clear hbr10
  go_upto_region 9 with fail
  refine wp_region_seq 1 ?_
  simp only [List.take_succ_cons, List.take_zero, List.drop_succ_cons, List.drop_zero]
  refine upW_late (by rfl) (.agg (WR 0 0 0 0)) (fun w => run_built _ _ _ _ rfl _ (by kernel_rfl) w) ?_
  simp only [Act.put, List.setIfInBounds_toArray, List.set]
  refine upW_nil (fun wr11 hbr11 => ?_)
  replace HX0 := Lib.hid (HX0.out.ext hbr11)
  replace HX1 := Lib.hid (HX1.out.ext hbr11)
  replace HB5 := Lib.hid (HB5.out.ext hbr11)
  replace HB8 := Lib.hid (HB8.out.ext hbr11)
  replace HB9x0 := Lib.hid (HB9x0.out.ext hbr11)
  replace HB := Lib.hid (HB.out.trans (hbr11.mono (show N ≤ _ by have := HB.out.size; have := HN.out; omega)))
  clear hbr11
  refine wpList_store_ct rfl 88 _ _ rfl (N + 1) (WR 0 0 0 0) rfl rfl 88 (WR 0 0 0 0) 16 HX1.out (by kernel_rfl) (WR_rw 0 0 0 0) (WR_rw 0 0 0 0) rfl (fun wr12 hSwr12 hOwr12 hWwr12 => ?_)
  replace HX1 := Lib.hid hSwr12
  replace HB := Lib.hid (hWwr12 _ _ HB.out (by omega))
  replace HX0 := Lib.hid (HX0.out.other (hOwr12 _ (by omega)))
  replace HB5 := Lib.hid (HB5.out.other (hOwr12 _ (by omega)))
  replace HB8 := Lib.hid (HB8.out.other (hOwr12 _ (by omega)))
  replace HB9x0 := Lib.hid (HB9x0.out.other (hOwr12 _ (by omega)))
  clear hSwr12 hOwr12 hWwr12
  go_wp2
  refine bodyPost_ret (results_ct_slot (p := 2) (q := 3) (by rfl) _ _ (N + 1) 88 (WR 0 0 0 0) 16 _ (.bool false) (by rfl) HX1.out (WR_rw 0 0 0 0) Try.underlying88 rfl (by kernel_rfl) rfl) rfl ⟨by first | rfl | (simp only [HE3.out, HE5.out, HE7.out, HE9.out, HE11.out, HE13.out]), by rw [HN.out]; exact HB.out⟩
set_option maxRecDepth 100000 in
set_option maxHeartbeats 1000000 in
theorem open_c (n m : Nat) (o : Bool) (hn : n < 115792089237316195423570985008687907853269984665640564039457584007913129639936) (hm : n % 57896044618658097711785492504343953926634992332820282019728792003956564819968 = m) (ho : decide (57896044618658097711785492504343953926634992332820282019728792003956564819968 ≤ n) = o) (y : Fp) (hy : y.val = m) (hf : fis (sqx y) = true) (hod : o = true) (hz : decide (frt (sqx y) = 0) = true) (w : World) :
    Calls Try.prog 76 #[.agg (PB n)] w fun e w' => e = .returned (.tuple #[.agg (WR 0 0 0 0), .bool false]) ∧ Below w.heap.size w w' := by
  obtain ⟨v, hv⟩ : ∃ v, n / 452312848583266388373324160190187140051835877600158453279131187530910662656 = v := ⟨_, rfl⟩
  have HV := Lib.hid (show (PB n)[31]? = some (.int .u8 (v : Int)) by rw [← hv]; exact PB_31 n hn)
  have HV2 := Lib.hid (show v < 256 by omega)
  obtain ⟨n2, hn2⟩ : ∃ k, k = m := ⟨_, rfl⟩
  have HW := Lib.hid (show (PB n).setIfInBounds 31 (.int .u8 ((v % 128 : Nat) : Int)) = PB n2 from PB_set31 n n2 (v % 128) hn (by omega) (by omega))
  have HML := Lib.hid (show n2 < 115792089237316195423570985008687907853269984665640564039457584007913129639936 by omega)
  have HO := Lib.hid (show (!(((v / 128 * 128 : Nat) : Int) == 0)) = o by
    rw [← ho, Bool.eq_iff_iff]
    simp
    omega)
  clear hv
  obtain rfl : n2 = y.val := by omega
  have HNE := Lib.hid (show (!decide (y.val = y.val)) = false by simp)
  have HFI := Lib.hid hf
  obtain ⟨r, hr⟩ : ∃ r : Fp, frt (sqx y) = r := ⟨_, rfl⟩
  have HRT := Lib.hid hr
  subst hod
  rw [hr] at hz
  have HRZ := Lib.hid (show decide (r.val = (0 : Fp).val) = true by rw [← hz, Bool.eq_iff_iff, decide_eq_true_eq, decide_eq_true_eq]; exact ⟨fun h => Fin.ext h, fun h => by rw [h]⟩)
  clear hn hm ho hf hr hy hn2
  clear hz
  have HQ1 := Lib.hid (fun w => PB.fromB y w)
  have HQ2 := Lib.hid (fun w => WB.rest y w)
  obtain ⟨c3, hc3⟩ : ∃ zq : Fp, zq = y * y := ⟨_, rfl⟩
  have HE3 := Lib.hid hc3
  clear hc3
  have HQ4 := Lib.hid (fun w => WB.mul y y w)
  rw [← HE3.out] at HQ4
  obtain ⟨c5, hc5⟩ : ∃ zq : Fp, zq = c3 - 1 := ⟨_, rfl⟩
  have HE5 := Lib.hid hc5
  clear hc5
  have HQ6 := Lib.hid (fun w => WB.sub c3 1 w)
  rw [← HE5.out] at HQ6
  obtain ⟨c7, hc7⟩ : ∃ zq : Fp, zq = cD * c3 := ⟨_, rfl⟩
  have HE7 := Lib.hid hc7
  clear hc7
  have HQ8 := Lib.hid (fun w => WB.mul cD c3 w)
  rw [← HE7.out] at HQ8
  obtain ⟨c9, hc9⟩ : ∃ zq : Fp, zq = c7 + 1 := ⟨_, rfl⟩
  have HE9 := Lib.hid hc9
  clear hc9
  have HQ10 := Lib.hid (fun w => WB.add c7 1 w)
  rw [← HE9.out] at HQ10
  obtain ⟨c11, hc11⟩ : ∃ zq : Fp, zq = finv c9 := ⟨_, rfl⟩
  have HE11 := Lib.hid hc11
  clear hc11
  have HQ12 := Lib.hid (fun w => WB.inv c9 w)
  rw [← HE11.out] at HQ12
  obtain ⟨c13, hc13⟩ : ∃ zq : Fp, zq = c5 * c11 := ⟨_, rfl⟩
  have HE13 := Lib.hid hc13
  clear hc13
  have HQ14 := Lib.hid (fun w => WB.mul c5 c11 w)
  rw [← HE13.out] at HQ14
  have HQ15 := Lib.hid (fun w => WB.root c13 w)
  rw [show fis c13 = true by simp only [HE3.out, HE5.out, HE7.out, HE9.out, HE11.out, HE13.out]; exact HFI.out, show frt c13 = r by simp only [HE3.out, HE5.out, HE7.out, HE9.out, HE11.out, HE13.out]; exact HRT.out] at HQ15
  have hz0 := zPo
  have hz1 := zWo
  go_enter Try.func76, Try.ntmps76
  go_upto_region 1 with fail
  generalize hW1 : World.alloc _ _ = W1
  obtain ⟨N, hN⟩ : ∃ n, w.heap.size = n := ⟨_, rfl⟩
  have HX0 := Lib.hid (show CT W1 N 23 (PB n) by subst hW1; rw [← hN]; exact (allocs2_at w _ _).1)
  have HX1 := Lib.hid (show CT W1 (N + 1) 88 (WR 0 0 0 0) by subst hW1; rw [← hN]; exact (allocs2_at w _ _).2)
  have HB := Lib.hid (show Below N w W1 by subst hW1; rw [← hN]; exact allocs2_below w _ _)
  have HN := Lib.hid hN
  rw [hN]
  clear hW1 hN
  refine wp_region_seq 4 ?_
  simp only [List.take_succ_cons, List.take_zero, List.drop_succ_cons, List.drop_zero]
  refine upW_late (by rfl) (.pointer (some ⟨N, 31, none⟩)) (fun _ => by kernel_rfl) ?_
  simp only [Act.put, List.setIfInBounds_toArray, List.set]
  refine upW_val (by rfl) (by rfl) (by rfl) (fun K hK => quiet_load_byte _ rfl N 31 rfl 23 (PB n) HX0.out (.int .u8 (v : Int)) HV.out (hK _ ?_))
  simp only [Act.put, List.setIfInBounds_toArray, List.set]
  refine upW_late (by rfl) (.int .u8 ((v / 128 * 128 : Nat) : Int)) (fun w => run_and8 _ _ _ _ _ rfl (v : Int) 128 rfl rfl ((v / 128 * 128 : Nat) : Int) (and128 v HV2.out) w) ?_
  simp only [Act.put, List.setIfInBounds_toArray, List.set]
  refine upW_late (by rfl) (.bool true) (fun w => run_neq8 _ _ _ _ rfl ((v / 128 * 128 : Nat) : Int) 0 rfl rfl true HO.out w) ?_
  simp only [Act.put, List.setIfInBounds_toArray, List.set]
  refine upW_nil (fun wr1 hbr1 => ?_)
  replace HX0 := Lib.hid (HX0.out.ext hbr1)
  replace HX1 := Lib.hid (HX1.out.ext hbr1)
  replace HB := Lib.hid (HB.out.trans (hbr1.mono (show N ≤ _ by have := HB.out.size; have := HN.out; omega)))
  clear hbr1
  go_upto_region 2 with fail
  refine wp_region_seq 4 ?_
  simp only [List.take_succ_cons, List.take_zero, List.drop_succ_cons, List.drop_zero]
  refine upW_late (by rfl) (.pointer (some ⟨N, 31, none⟩)) (fun _ => by kernel_rfl) ?_
  simp only [Act.put, List.setIfInBounds_toArray, List.set]
  refine upW_val (by rfl) (by rfl) (by rfl) (fun K hK => quiet_load_byte _ rfl N 31 rfl 23 (PB n) HX0.out (.int .u8 (v : Int)) HV.out (hK _ ?_))
  simp only [Act.put, List.setIfInBounds_toArray, List.set]
  refine upW_late (by rfl) (.int .u8 ((v % 128 : Nat) : Int)) (fun w => run_and8 _ _ _ _ _ rfl (v : Int) 127 rfl rfl ((v % 128 : Nat) : Int) (and127 v HV2.out) w) ?_
  simp only [Act.put, List.setIfInBounds_toArray, List.set]
  refine upW_late (by rfl) (.pointer (some ⟨N, 31, none⟩)) (fun _ => by kernel_rfl) ?_
  simp only [Act.put, List.setIfInBounds_toArray, List.set]
  refine upW_nil (fun wr2 hbr2 => ?_)
  replace HX0 := Lib.hid (HX0.out.ext hbr2)
  replace HX1 := Lib.hid (HX1.out.ext hbr2)
  replace HB := Lib.hid (HB.out.trans (hbr2.mono (show N ≤ _ by have := HB.out.size; have := HN.out; omega)))
  clear hbr2
  refine wpList_store_byte rfl _ _ rfl N 31 rfl ((v % 128 : Nat) : Int) rfl 23 (PB n) (PB y.val) HX0.out (by rw [(PB_rw n).size]; decide) HW.out rfl (fun wr3 hSwr3 hOwr3 hWwr3 => ?_)
  replace HX0 := Lib.hid hSwr3
  replace HB := Lib.hid (hWwr3 _ _ HB.out (by omega))
  replace HX1 := Lib.hid (HX1.out.other (hOwr3 _ (by omega)))
  clear hSwr3 hOwr3 hWwr3
  go_upto_region 3 with fail
  refine wp_region_seq 2 ?_
  simp only [List.take_succ_cons, List.take_zero, List.drop_succ_cons, List.drop_zero]
  refine upW_val (by rfl) (by rfl) (by rfl) (fun K hK => quiet_load_ct _ _ rfl N rfl 23 (PB y.val) 32 (PB_rw y.val) _ HX0.out Try.underlying23 rfl (by kernel_rfl) (hK _ ?_))
  simp only [Act.put, List.setIfInBounds_toArray, List.set]
  refine upW_call (by rfl) (by rfl) (.agg (WB y)) _ rfl (by simp) (fun p => ?_) ?_
  · go_big_quiet_op
    exact ⟨_, fun q => Calls.ext_of (HQ1.out q.x), rfl⟩
  simp only [Act.put, List.setIfInBounds_toArray, List.set]
  refine upW_nil (fun wr4 hbr4 => ?_)
  replace HX0 := Lib.hid (HX0.out.ext hbr4)
  replace HX1 := Lib.hid (HX1.out.ext hbr4)
  replace HB := Lib.hid (HB.out.trans (hbr4.mono (show N ≤ _ by have := HB.out.size; have := HN.out; omega)))
  clear hbr4
  refine wpList_new1 rfl 86 rfl (WB 0) zWo rfl _ _ rfl rfl (WB y) 4 (WB_rw y) (WB_rw 0).size (by kernel_rfl) rfl rfl (fun B5 wr5 hB5 hbr5 hCB5 => ?_)
  have HB5 := Lib.hid hCB5
  have hlB5X0 : N < B5 := by rw [← hB5]; exact HX0.out.lt
  have hlB5X1 : (N + 1) < B5 := by rw [← hB5]; exact HX1.out.lt
  have hNB5 : N ≤ B5 := by rw [← hB5]; have := HB.out.size; have := HN.out; omega
  clear hB5 hCB5
  simp only [Act.put, List.setIfInBounds_toArray, List.set]
  replace HX0 := Lib.hid (HX0.out.ext hbr5)
  replace HX1 := Lib.hid (HX1.out.ext hbr5)
  replace HB := Lib.hid (HB.out.trans (hbr5.mono (show N ≤ _ by have := HB.out.size; have := HN.out; omega)))
  clear hbr5
  go_upto_region 4 with fail
  refine wp_region_whole [0, 1, 2, 3] [] [] (by kernel_rfl) (by kernel_rfl) (List.forall_mem_nil _) rfl ?_
  simp only [List.foldl]
  refine upW_val (by rfl) (by rfl) (by rfl) (fun K hK => quiet_load_ct _ _ rfl B5 rfl 86 (WB y) 4 (WB_rw y) _ HB5.out Try.underlying86 rfl (by kernel_rfl) (hK _ ?_))
  simp only [Act.put, List.setIfInBounds_toArray, List.set]
  refine upW_call (by rfl) (by rfl) (.agg (WB y)) _ rfl (by simp) (fun p => ?_) ?_
  · go_big_quiet_op
    exact ⟨_, fun q => Calls.ext_of (HQ2.out q.x), rfl⟩
  simp only [Act.put, List.setIfInBounds_toArray, List.set]
  refine upW_val (by rfl) (by rfl) (by rfl) (fun K hK => quiet_load_ct _ _ rfl B5 rfl 86 (WB y) 4 (WB_rw y) _ HB5.out Try.underlying86 rfl (by kernel_rfl) (hK _ ?_))
  simp only [Act.put, List.setIfInBounds_toArray, List.set]
  refine upW_late (by rfl) (.bool false) (fun w => run_neW4 _ _ _ _ rfl y.val y.val rfl rfl y.lt256 y.lt256 false HNE.out w) ?_
  simp only [Act.put, List.setIfInBounds_toArray, List.set]
  refine upW_nil ⟨List.forall_mem_nil _, fun M2 wr6 hM2 hne hbr6 => ?_⟩
  simp only [List.foldr]
  clear hM2 hne M2
  replace HX0 := Lib.hid (HX0.out.ext hbr6)
  replace HX1 := Lib.hid (HX1.out.ext hbr6)
  replace HB5 := Lib.hid (HB5.out.ext hbr6)
  replace HB := Lib.hid (HB.out.trans (hbr6.mono (show N ≤ _ by have := HB.out.size; have := HN.out; omega)))
  clear hbr6
  go_upto_region 6 with fail
  refine wp_region_seq 3 ?_
  simp only [List.take_succ_cons, List.take_zero, List.drop_succ_cons, List.drop_zero]
  refine upW_val (by rfl) (by rfl) (by rfl) (fun K hK => quiet_load_ct _ _ rfl B5 rfl 86 (WB y) 4 (WB_rw y) _ HB5.out Try.underlying86 rfl (by kernel_rfl) (hK _ ?_))
  simp only [Act.put, List.setIfInBounds_toArray, List.set]
  refine upW_val (by rfl) (by rfl) (by rfl) (fun K hK => quiet_load_ct _ _ rfl B5 rfl 86 (WB y) 4 (WB_rw y) _ HB5.out Try.underlying86 rfl (by kernel_rfl) (hK _ ?_))
  simp only [Act.put, List.setIfInBounds_toArray, List.set]
  refine upW_call (by rfl) (by rfl) (.agg (WB c3)) _ rfl (by simp) (fun p => ?_) ?_
  · go_big_quiet_op
    exact ⟨_, fun q => Calls.ext_of (HQ4.out q.x), rfl⟩
  simp only [Act.put, List.setIfInBounds_toArray, List.set]
  refine upW_nil (fun wr7 hbr7 => ?_)
  replace HX0 := Lib.hid (HX0.out.ext hbr7)
  replace HX1 := Lib.hid (HX1.out.ext hbr7)
  replace HB5 := Lib.hid (HB5.out.ext hbr7)
  replace HB := Lib.hid (HB.out.trans (hbr7.mono (show N ≤ _ by have := HB.out.size; have := HN.out; omega)))
  clear hbr7
  refine wpList_new1 rfl 86 rfl (WB 0) zWo rfl _ _ rfl rfl (WB c3) 4 (WB_rw c3) (WB_rw 0).size (by kernel_rfl) rfl rfl (fun B8 wr8 hB8 hbr8 hCB8 => ?_)
  have HB8 := Lib.hid hCB8
  have hlB8X0 : N < B8 := by rw [← hB8]; exact HX0.out.lt
  have hlB8X1 : (N + 1) < B8 := by rw [← hB8]; exact HX1.out.lt
  have hlB8B5 : B5 < B8 := by rw [← hB8]; exact HB5.out.lt
  have hNB8 : N ≤ B8 := by rw [← hB8]; have := HB.out.size; have := HN.out; omega
  clear hB8 hCB8
  simp only [Act.put, List.setIfInBounds_toArray, List.set]
  replace HX0 := Lib.hid (HX0.out.ext hbr8)
  replace HX1 := Lib.hid (HX1.out.ext hbr8)
  replace HB5 := Lib.hid (HB5.out.ext hbr8)
  replace HB := Lib.hid (HB.out.trans (hbr8.mono (show N ≤ _ by have := HB.out.size; have := HN.out; omega)))
  clear hbr8
  go_upto_region 7 with fail
  refine wp_region_whole [0, 1, 2, 3, 4, 5, 6, 7, 8, 9, 10, 11, 12, 13, 16] [⟨14, _, 86, (WB 0), 7, 15, _, 86, 39, (WB r)⟩] [15, 14] (by kernel_rfl) (by kernel_rfl) (List.forall_mem_cons.2 ⟨⟨⟨rfl, rfl, rfl, fun a w => alloc_run _ _ zWo a _ rfl w⟩, rfl, rfl, rfl, rfl, (WB_rw r).info (by kernel_rfl), (WB_rw 0).same (WB_rw r), (WB_rw r).one⟩, (List.forall_mem_nil _)⟩) rfl ?_
  simp only [List.foldl, List.eraseIdx_cons_succ, List.eraseIdx_cons_zero]
  refine upW_val (by rfl) (by rfl) (by rfl) (fun K hK => quiet_load_ct _ _ rfl B8 rfl 86 (WB c3) 4 (WB_rw c3) _ HB8.out Try.underlying86 rfl (by kernel_rfl) (hK _ ?_))
  simp only [Act.put, List.setIfInBounds_toArray, List.set]
  refine upW_late (by rfl) (.agg (WB 1)) (fun w => run_built _ _ _ _ rfl _ (by kernel_rfl) w) ?_
  simp only [Act.put, List.setIfInBounds_toArray, List.set]
  refine upW_call (by rfl) (by rfl) (.agg (WB c5)) _ rfl (by simp) (fun p => ?_) ?_
  · go_big_quiet_op
    exact ⟨_, fun q => Calls.ext_of (HQ6.out q.x), rfl⟩
  simp only [Act.put, List.setIfInBounds_toArray, List.set]
  refine upW_call (by rfl) (by rfl) (.agg (WB cD)) _ rfl (by simp) (fun p => ?_) ?_
  · go_big_quiet_op
    exact ⟨_, fun q => Calls.ext_of (dee_any q.x), rfl⟩
  simp only [Act.put, List.setIfInBounds_toArray, List.set]
  refine upW_val (by rfl) (by rfl) (by rfl) (fun K hK => quiet_load_ct _ _ rfl B8 rfl 86 (WB c3) 4 (WB_rw c3) _ HB8.out Try.underlying86 rfl (by kernel_rfl) (hK _ ?_))
  simp only [Act.put, List.setIfInBounds_toArray, List.set]
  refine upW_call (by rfl) (by rfl) (.agg (WB c7)) _ rfl (by simp) (fun p => ?_) ?_
  · go_big_quiet_op
    exact ⟨_, fun q => Calls.ext_of (HQ8.out q.x), rfl⟩
  simp only [Act.put, List.setIfInBounds_toArray, List.set]
  refine upW_late (by rfl) (.agg (WB 1)) (fun w => run_built _ _ _ _ rfl _ (by kernel_rfl) w) ?_
  simp only [Act.put, List.setIfInBounds_toArray, List.set]
  refine upW_call (by rfl) (by rfl) (.agg (WB c9)) _ rfl (by simp) (fun p => ?_) ?_
  · go_big_quiet_op
    exact ⟨_, fun q => Calls.ext_of (HQ10.out q.x), rfl⟩
  simp only [Act.put, List.setIfInBounds_toArray, List.set]
  refine upW_call (by rfl) (by rfl) (.agg (WB c11)) _ rfl (by simp) (fun p => ?_) ?_
  · go_big_quiet_op
    exact ⟨_, fun q => Calls.ext_of (HQ12.out q.x), rfl⟩
  simp only [Act.put, List.setIfInBounds_toArray, List.set]
  refine upW_call (by rfl) (by rfl) (.agg (WB c13)) _ rfl (by simp) (fun p => ?_) ?_
  · go_big_quiet_op
    exact ⟨_, fun q => Calls.ext_of (HQ14.out q.x), rfl⟩
  simp only [Act.put, List.setIfInBounds_toArray, List.set]
  refine upW_call (by rfl) (by rfl) (.tuple #[.agg (WB r), .bool true]) _ rfl (by simp) (fun p => ?_) ?_
  · go_big_quiet_op
    exact ⟨_, fun q => Calls.ext_of (HQ15.out q.x), rfl⟩
  simp only [Act.put, List.setIfInBounds_toArray, List.set]
  refine upW_val (by rfl) (by rfl) (by rfl) ?_
  intro K hK
  go_big_quiet_op
  refine hK _ ?_
  refine upW_late (by rfl) (.agg (WB r)) (fun _ => rfl) ?_
  simp only [Act.put, List.setIfInBounds_toArray, List.set]
  refine upW_late (by rfl) (.bool true) (fun _ => rfl) ?_
  simp only [Act.put, List.setIfInBounds_toArray, List.set]
  refine upW_val (by rfl) (by rfl) (by rfl) ?_
  intro K hK
  go_big_quiet_op
  refine hK _ ?_
  refine upW_nil ⟨(List.forall_mem_cons.2 ⟨rfl, (List.forall_mem_nil _)⟩), fun M wr9 hM hne hbr9 => ?_⟩
  have hm0 := hM _ (List.mem_cons_self ..)
  clear hM hne
  simp only [List.foldr, pS, Act.put, List.setIfInBounds_toArray, List.set]
  obtain ⟨B9x0, hB9x0⟩ : ∃ m, M 14 = m := ⟨_, rfl⟩
  have HB9x0 := Lib.hid (show CT wr9 B9x0 86 (WB r) by rw [← hB9x0]; exact hm0.2)
  have hlB9x0X0 : N < B9x0 := by rw [← hB9x0]; exact Nat.lt_of_lt_of_le HX0.out.lt hm0.1
  have hlB9x0X1 : (N + 1) < B9x0 := by rw [← hB9x0]; exact Nat.lt_of_lt_of_le HX1.out.lt hm0.1
  have hlB9x0B5 : B5 < B9x0 := by rw [← hB9x0]; exact Nat.lt_of_lt_of_le HB5.out.lt hm0.1
  have hlB9x0B8 : B8 < B9x0 := by rw [← hB9x0]; exact Nat.lt_of_lt_of_le HB8.out.lt hm0.1
  have hNB9x0 : N ≤ B9x0 := by rw [← hB9x0]; exact Nat.le_trans (by have := HB.out.size; have := HN.out; omega) hm0.1
  rw [hB9x0]
  clear hm0 hB9x0
  replace HX0 := Lib.hid (HX0.out.ext hbr9)
  replace HX1 := Lib.hid (HX1.out.ext hbr9)
  replace HB5 := Lib.hid (HB5.out.ext hbr9)
  replace HB8 := Lib.hid (HB8.out.ext hbr9)
  replace HB := Lib.hid (HB.out.trans (hbr9.mono (show N ≤ _ by have := HB.out.size; have := HN.out; omega)))
  clear hbr9
  go_upto_region 8 with fail
  refine wp_region_seq 9 ?_
  simp only [List.take_succ_cons, List.take_zero, List.drop_succ_cons, List.drop_zero]
  refine upW_val (by rfl) (by rfl) (by rfl) ?_
  intro K hK
  go_big_quiet_op
  refine hK _ ?_
  refine upW_val (by rfl) (by rfl) (by rfl) ?_
  intro K hK
  go_big_quiet_op
  refine hK _ ?_
  refine upW_val (by rfl) (by rfl) (by rfl) ?_
  intro K hK
  go_big_quiet_op
  refine hK _ ?_
  refine upW_val (by rfl) (by rfl) (by rfl) ?_
  intro K hK
  go_big_quiet_op
  refine hK _ ?_
  refine upW_val (by rfl) (by rfl) (by rfl) ?_
  intro K hK
  go_big_quiet_op
  refine hK _ ?_
  refine upW_val (by rfl) (by rfl) (by rfl) (fun K hK => quiet_load_ct _ _ rfl B9x0 rfl 86 (WB r) 4 (WB_rw r) _ HB9x0.out Try.underlying86 rfl (by kernel_rfl) (hK _ ?_))
  simp only [Act.put, List.setIfInBounds_toArray, List.set]
  refine upW_late (by rfl) (.agg (WB 0)) (fun w => run_built _ _ _ _ rfl _ (by kernel_rfl) w) ?_
  simp only [Act.put, List.setIfInBounds_toArray, List.set]
  refine upW_late (by rfl) (.bool true) (fun w => run_eqW4 _ _ _ _ rfl r.val (0 : Fp).val rfl rfl r.lt256 (by decide) true HRZ.out w) ?_
  simp only [Act.put, List.setIfInBounds_toArray, List.set]
  refine upW_val (by rfl) (by rfl) (by rfl) ?_
  intro K hK
  go_big_quiet_op
  refine hK _ ?_
  refine upW_nil (fun wr10 hbr10 => ?_)
  replace HX0 := Lib.hid (HX0.out.ext hbr10)
  replace HX1 := Lib.hid (HX1.out.ext hbr10)
  replace HB5 := Lib.hid (HB5.out.ext hbr10)
  replace HB8 := Lib.hid (HB8.out.ext hbr10)
  replace HB9x0 := Lib.hid (HB9x0.out.ext hbr10)
  replace HB := Lib.hid (HB.out.trans (hbr10.mono (show N ≤ _ by have := HB.out.size; have := HN.out; omega)))
  clear hbr10
  go_upto_region 9 with fail
  refine wp_region_seq 1 ?_
  simp only [List.take_succ_cons, List.take_zero, List.drop_succ_cons, List.drop_zero]
  refine upW_late (by rfl) (.agg (WR 0 0 0 0)) (fun w => run_built _ _ _ _ rfl _ (by kernel_rfl) w) ?_
  simp only [Act.put, List.setIfInBounds_toArray, List.set]
  refine upW_nil (fun wr11 hbr11 => ?_)
  replace HX0 := Lib.hid (HX0.out.ext hbr11)
  replace HX1 := Lib.hid (HX1.out.ext hbr11)
  replace HB5 := Lib.hid (HB5.out.ext hbr11)
  replace HB8 := Lib.hid (HB8.out.ext hbr11)
  replace HB9x0 := Lib.hid (HB9x0.out.ext hbr11)
  replace HB := Lib.hid (HB.out.trans (hbr11.mono (show N ≤ _ by have := HB.out.size; have := HN.out; omega)))
  clear hbr11
  refine wpList_store_ct rfl 88 _ _ rfl (N + 1) (WR 0 0 0 0) rfl rfl 88 (WR 0 0 0 0) 16 HX1.out (by kernel_rfl) (WR_rw 0 0 0 0) (WR_rw 0 0 0 0) rfl (fun wr12 hSwr12 hOwr12 hWwr12 => ?_)
  replace HX1 := Lib.hid hSwr12
  replace HB := Lib.hid (hWwr12 _ _ HB.out (by omega))
  replace HX0 := Lib.hid (HX0.out.other (hOwr12 _ (by omega)))
  replace HB5 := Lib.hid (HB5.out.other (hOwr12 _ (by omega)))
  replace HB8 := Lib.hid (HB8.out.other (hOwr12 _ (by omega)))
  replace HB9x0 := Lib.hid (HB9x0.out.other (hOwr12 _ (by omega)))
  clear hSwr12 hOwr12 hWwr12
  go_wp2
  refine bodyPost_ret (results_ct_slot (p := 2) (q := 3) (by rfl) _ _ (N + 1) 88 (WR 0 0 0 0) 16 _ (.bool false) (by rfl) HX1.out (WR_rw 0 0 0 0) Try.underlying88 rfl (by kernel_rfl) rfl) rfl ⟨by first | rfl | (simp only [HE3.out, HE5.out, HE7.out, HE9.out, HE11.out, HE13.out]), by rw [HN.out]; exact HB.out⟩
set_option maxRecDepth 100000 in
set_option maxHeartbeats 1000000 in
theorem open_d (n m : Nat) (o : Bool) (hn : n < 115792089237316195423570985008687907853269984665640564039457584007913129639936) (hm : n % 57896044618658097711785492504343953926634992332820282019728792003956564819968 = m) (ho : decide (57896044618658097711785492504343953926634992332820282019728792003956564819968 ≤ n) = o) (y : Fp) (hy : y.val = m) (hf : fis (sqx y) = true) (hod : o = true) (hz : decide (frt (sqx y) = 0) = false) (w : World) :
    Calls Try.prog 76 #[.agg (PB n)] w fun e w' => e = .returned (.tuple #[.agg (WR (-frt (sqx y)) y 1 (-frt (sqx y) * y)), .bool true]) ∧ Below w.heap.size w w' := by
  obtain ⟨v, hv⟩ : ∃ v, n / 452312848583266388373324160190187140051835877600158453279131187530910662656 = v := ⟨_, rfl⟩
  have HV := Lib.hid (show (PB n)[31]? = some (.int .u8 (v : Int)) by rw [← hv]; exact PB_31 n hn)
  have HV2 := Lib.hid (show v < 256 by omega)
  obtain ⟨n2, hn2⟩ : ∃ k, k = m := ⟨_, rfl⟩
  have HW := Lib.hid (show (PB n).setIfInBounds 31 (.int .u8 ((v % 128 : Nat) : Int)) = PB n2 from PB_set31 n n2 (v % 128) hn (by omega) (by omega))
  have HML := Lib.hid (show n2 < 115792089237316195423570985008687907853269984665640564039457584007913129639936 by omega)
  have HO := Lib.hid (show (!(((v / 128 * 128 : Nat) : Int) == 0)) = o by
    rw [← ho, Bool.eq_iff_iff]
    simp
    omega)
  clear hv
  obtain rfl : n2 = y.val := by omega
  have HNE := Lib.hid (show (!decide (y.val = y.val)) = false by simp)
  have HFI := Lib.hid hf
  obtain ⟨r, hr⟩ : ∃ r : Fp, frt (sqx y) = r := ⟨_, rfl⟩
  have HRT := Lib.hid hr
  subst hod
  rw [hr] at hz
  have HRZ := Lib.hid (show decide (r.val = (0 : Fp).val) = false by rw [← hz, Bool.eq_iff_iff, decide_eq_true_eq, decide_eq_true_eq]; exact ⟨fun h => Fin.ext h, fun h => by rw [h]⟩)
  rw [hr]
  rw [← zero_sub' r]
  clear hn hm ho hf hr hy hn2
  clear hz
  have HQ1 := Lib.hid (fun w => PB.fromB y w)
  have HQ2 := Lib.hid (fun w => WB.rest y w)
  obtain ⟨c3, hc3⟩ : ∃ zq : Fp, zq = y * y := ⟨_, rfl⟩
  have HE3 := Lib.hid hc3
  clear hc3
  have HQ4 := Lib.hid (fun w => WB.mul y y w)
  rw [← HE3.out] at HQ4
  obtain ⟨c5, hc5⟩ : ∃ zq : Fp, zq = c3 - 1 := ⟨_, rfl⟩
  have HE5 := Lib.hid hc5
  clear hc5
  have HQ6 := Lib.hid (fun w => WB.sub c3 1 w)
  rw [← HE5.out] at HQ6
  obtain ⟨c7, hc7⟩ : ∃ zq : Fp, zq = cD * c3 := ⟨_, rfl⟩
  have HE7 := Lib.hid hc7
  clear hc7
  have HQ8 := Lib.hid (fun w => WB.mul cD c3 w)
  rw [← HE7.out] at HQ8
  obtain ⟨c9, hc9⟩ : ∃ zq : Fp, zq = c7 + 1 := ⟨_, rfl⟩
  have HE9 := Lib.hid hc9
  clear hc9
  have HQ10 := Lib.hid (fun w => WB.add c7 1 w)
  rw [← HE9.out] at HQ10
  obtain ⟨c11, hc11⟩ : ∃ zq : Fp, zq = finv c9 := ⟨_, rfl⟩
  have HE11 := Lib.hid hc11
  clear hc11
  have HQ12 := Lib.hid (fun w => WB.inv c9 w)
  rw [← HE11.out] at HQ12
  obtain ⟨c13, hc13⟩ : ∃ zq : Fp, zq = c5 * c11 := ⟨_, rfl⟩
  have HE13 := Lib.hid hc13
  clear hc13
  have HQ14 := Lib.hid (fun w => WB.mul c5 c11 w)
  rw [← HE13.out] at HQ14
  have HQ15 := Lib.hid (fun w => WB.root c13 w)
  rw [show fis c13 = true by simp only [HE3.out, HE5.out, HE7.out, HE9.out, HE11.out, HE13.out]; exact HFI.out, show frt c13 = r by simp only [HE3.out, HE5.out, HE7.out, HE9.out, HE11.out, HE13.out]; exact HRT.out] at HQ15
  obtain ⟨c16, hc16⟩ : ∃ zq : Fp, zq = 0 - r := ⟨_, rfl⟩
  have HE16 := Lib.hid hc16
  clear hc16
  have HQ17 := Lib.hid (fun w => WB.sub 0 r w)
  rw [← HE16.out] at HQ17
  obtain ⟨c18, hc18⟩ : ∃ zq : Fp, zq = c16 * y := ⟨_, rfl⟩
  have HE18 := Lib.hid hc18
  clear hc18
  have HQ19 := Lib.hid (fun w => flatP_any c16 y w)
  rw [← HE18.out] at HQ19
  have hz0 := zPo
  have hz1 := zWo
  go_enter Try.func76, Try.ntmps76
  go_upto_region 1 with fail
  generalize hW1 : World.alloc _ _ = W1
  obtain ⟨N, hN⟩ : ∃ n, w.heap.size = n := ⟨_, rfl⟩
  have HX0 := Lib.hid (show CT W1 N 23 (PB n) by subst hW1; rw [← hN]; exact (allocs2_at w _ _).1)
  have HX1 := Lib.hid (show CT W1 (N + 1) 88 (WR 0 0 0 0) by subst hW1; rw [← hN]; exact (allocs2_at w _ _).2)
  have HB := Lib.hid (show Below N w W1 by subst hW1; rw [← hN]; exact allocs2_below w _ _)
  have HN := Lib.hid hN
  rw [hN]
  clear hW1 hN
  refine wp_region_seq 4 ?_
  simp only [List.take_succ_cons, List.take_zero, List.drop_succ_cons, List.drop_zero]
  refine upW_late (by rfl) (.pointer (some ⟨N, 31, none⟩)) (fun _ => by kernel_rfl) ?_
  simp only [Act.put, List.setIfInBounds_toArray, List.set]
  refine upW_val (by rfl) (by rfl) (by rfl) (fun K hK => quiet_load_byte _ rfl N 31 rfl 23 (PB n) HX0.out (.int .u8 (v : Int)) HV.out (hK _ ?_))
  simp only [Act.put, List.setIfInBounds_toArray, List.set]
  refine upW_late (by rfl) (.int .u8 ((v / 128 * 128 : Nat) : Int)) (fun w => run_and8 _ _ _ _ _ rfl (v : Int) 128 rfl rfl ((v / 128 * 128 : Nat) : Int) (and128 v HV2.out) w) ?_
  simp only [Act.put, List.setIfInBounds_toArray, List.set]
  refine upW_late (by rfl) (.bool true) (fun w => run_neq8 _ _ _ _ rfl ((v / 128 * 128 : Nat) : Int) 0 rfl rfl true HO.out w) ?_
  simp only [Act.put, List.setIfInBounds_toArray, List.set]
  refine upW_nil (fun wr1 hbr1 => ?_)
  replace HX0 := Lib.hid (HX0.out.ext hbr1)
  replace HX1 := Lib.hid (HX1.out.ext hbr1)
  replace HB := Lib.hid (HB.out.trans (hbr1.mono (show N ≤ _ by have := HB.out.size; have := HN.out; omega)))
  clear hbr1
  go_upto_region 2 with fail
  refine wp_region_seq 4 ?_
  simp only [List.take_succ_cons, List.take_zero, List.drop_succ_cons, List.drop_zero]
  refine upW_late (by rfl) (.pointer (some ⟨N, 31, none⟩)) (fun _ => by kernel_rfl) ?_
  simp only [Act.put, List.setIfInBounds_toArray, List.set]
  refine upW_val (by rfl) (by rfl) (by rfl) (fun K hK => quiet_load_byte _ rfl N 31 rfl 23 (PB n) HX0.out (.int .u8 (v : Int)) HV.out (hK _ ?_))
  simp only [Act.put, List.setIfInBounds_toArray, List.set]
  refine upW_late (by rfl) (.int .u8 ((v % 128 : Nat) : Int)) (fun w => run_and8 _ _ _ _ _ rfl (v : Int) 127 rfl rfl ((v % 128 : Nat) : Int) (and127 v HV2.out) w) ?_
  simp only [Act.put, List.setIfInBounds_toArray, List.set]
  refine upW_late (by rfl) (.pointer (some ⟨N, 31, none⟩)) (fun _ => by kernel_rfl) ?_
  simp only [Act.put, List.setIfInBounds_toArray, List.set]
  refine upW_nil (fun wr2 hbr2 => ?_)
  replace HX0 := Lib.hid (HX0.out.ext hbr2)
  replace HX1 := Lib.hid (HX1.out.ext hbr2)
  replace HB := Lib.hid (HB.out.trans (hbr2.mono (show N ≤ _ by have := HB.out.size; have := HN.out; omega)))
  clear hbr2
  refine wpList_store_byte rfl _ _ rfl N 31 rfl ((v % 128 : Nat) : Int) rfl 23 (PB n) (PB y.val) HX0.out (by rw [(PB_rw n).size]; decide) HW.out rfl (fun wr3 hSwr3 hOwr3 hWwr3 => ?_)
  replace HX0 := Lib.hid hSwr3
  replace HB := Lib.hid (hWwr3 _ _ HB.out (by omega))
  replace HX1 := Lib.hid (HX1.out.other (hOwr3 _ (by omega)))
  clear hSwr3 hOwr3 hWwr3
  go_upto_region 3 with fail
  refine wp_region_seq 2 ?_
  simp only [List.take_succ_cons, List.take_zero, List.drop_succ_cons, List.drop_zero]
  refine upW_val (by rfl) (by rfl) (by rfl) (fun K hK => quiet_load_ct _ _ rfl N rfl 23 (PB y.val) 32 (PB_rw y.val) _ HX0.out Try.underlying23 rfl (by kernel_rfl) (hK _ ?_))
  simp only [Act.put, List.setIfInBounds_toArray, List.set]
  refine upW_call (by rfl) (by rfl) (.agg (WB y)) _ rfl (by simp) (fun p => ?_) ?_
  · go_big_quiet_op
    exact ⟨_, fun q => Calls.ext_of (HQ1.out q.x), rfl⟩
  simp only [Act.put, List.setIfInBounds_toArray, List.set]
  refine upW_nil (fun wr4 hbr4 => ?_)
  replace HX0 := Lib.hid (HX0.out.ext hbr4)
  replace HX1 := Lib.hid (HX1.out.ext hbr4)
  replace HB := Lib.hid (HB.out.trans (hbr4.mono (show N ≤ _ by have := HB.out.size; have := HN.out; omega)))
  clear hbr4
  refine wpList_new1 rfl 86 rfl (WB 0) zWo rfl _ _ rfl rfl (WB y) 4 (WB_rw y) (WB_rw 0).size (by kernel_rfl) rfl rfl (fun B5 wr5 hB5 hbr5 hCB5 => ?_)
  have HB5 := Lib.hid hCB5
  have hlB5X0 : N < B5 := by rw [← hB5]; exact HX0.out.lt
  have hlB5X1 : (N + 1) < B5 := by rw [← hB5]; exact HX1.out.lt
  have hNB5 : N ≤ B5 := by rw [← hB5]; have := HB.out.size; have := HN.out; omega
  clear hB5 hCB5
  simp only [Act.put, List.setIfInBounds_toArray, List.set]
  replace HX0 := Lib.hid (HX0.out.ext hbr5)
  replace HX1 := Lib.hid (HX1.out.ext hbr5)
  replace HB := Lib.hid (HB.out.trans (hbr5.mono (show N ≤ _ by have := HB.out.size; have := HN.out; omega)))
  clear hbr5
  go_upto_region 4 with fail
  refine wp_region_whole [0, 1, 2, 3] [] [] (by kernel_rfl) (by kernel_rfl) (List.forall_mem_nil _) rfl ?_
  simp only [List.foldl]
  refine upW_val (by rfl) (by rfl) (by rfl) (fun K hK => quiet_load_ct _ _ rfl B5 rfl 86 (WB y) 4 (WB_rw y) _ HB5.out Try.underlying86 rfl (by kernel_rfl) (hK _ ?_))
  simp only [Act.put, List.setIfInBounds_toArray, List.set]
  refine upW_call (by rfl) (by rfl) (.agg (WB y)) _ rfl (by simp) (fun p => ?_) ?_
  · go_big_quiet_op
    exact ⟨_, fun q => Calls.ext_of (HQ2.out q.x), rfl⟩
  simp only [Act.put, List.setIfInBounds_toArray, List.set]
  refine upW_val (by rfl) (by rfl) (by rfl) (fun K hK => quiet_load_ct _ _ rfl B5 rfl 86 (WB y) 4 (WB_rw y) _ HB5.out Try.underlying86 rfl (by kernel_rfl) (hK _ ?_))
  simp only [Act.put, List.setIfInBounds_toArray, List.set]
  refine upW_late (by rfl) (.bool false) (fun w => run_neW4 _ _ _ _ rfl y.val y.val rfl rfl y.lt256 y.lt256 false HNE.out w) ?_
  simp only [Act.put, List.setIfInBounds_toArray, List.set]
  refine upW_nil ⟨List.forall_mem_nil _, fun M2 wr6 hM2 hne hbr6 => ?_⟩
  simp only [List.foldr]
  clear hM2 hne M2
  replace HX0 := Lib.hid (HX0.out.ext hbr6)
  replace HX1 := Lib.hid (HX1.out.ext hbr6)
  replace HB5 := Lib.hid (HB5.out.ext hbr6)
  replace HB := Lib.hid (HB.out.trans (hbr6.mono (show N ≤ _ by have := HB.out.size; have := HN.out; omega)))
  clear hbr6
  go_upto_region 6 with fail
  refine wp_region_seq 3 ?_
  simp only [List.take_succ_cons, List.take_zero, List.drop_succ_cons, List.drop_zero]
  refine upW_val (by rfl) (by rfl) (by rfl) (fun K hK => quiet_load_ct _ _ rfl B5 rfl 86 (WB y) 4 (WB_rw y) _ HB5.out Try.underlying86 rfl (by kernel_rfl) (hK _ ?_))
  simp only [Act.put, List.setIfInBounds_toArray, List.set]
  refine upW_val (by rfl) (by rfl) (by rfl) (fun K hK => quiet_load_ct _ _ rfl B5 rfl 86 (WB y) 4 (WB_rw y) _ HB5.out Try.underlying86 rfl (by kernel_rfl) (hK _ ?_))
  simp only [Act.put, List.setIfInBounds_toArray, List.set]
  refine upW_call (by rfl) (by rfl) (.agg (WB c3)) _ rfl (by simp) (fun p => ?_) ?_
  · go_big_quiet_op
    exact ⟨_, fun q => Calls.ext_of (HQ4.out q.x), rfl⟩
  simp only [Act.put, List.setIfInBounds_toArray, List.set]
  refine upW_nil (fun wr7 hbr7 => ?_)
  replace HX0 := Lib.hid (HX0.out.ext hbr7)
  replace HX1 := Lib.hid (HX1.out.ext hbr7)
  replace HB5 := Lib.hid (HB5.out.ext hbr7)
  replace HB := Lib.hid (HB.out.trans (hbr7.mono (show N ≤ _ by have := HB.out.size; have := HN.out; omega)))
  clear hbr7
  refine wpList_new1 rfl 86 rfl (WB 0) zWo rfl _ _ rfl rfl (WB c3) 4 (WB_rw c3) (WB_rw 0).size (by kernel_rfl) rfl rfl (fun B8 wr8 hB8 hbr8 hCB8 => ?_)
  have HB8 := Lib.hid hCB8
  have hlB8X0 : N < B8 := by rw [← hB8]; exact HX0.out.lt
  have hlB8X1 : (N + 1) < B8 := by rw [← hB8]; exact HX1.out.lt
  have hlB8B5 : B5 < B8 := by rw [← hB8]; exact HB5.out.lt
  have hNB8 : N ≤ B8 := by rw [← hB8]; have := HB.out.size; have := HN.out; omega
  clear hB8 hCB8
  simp only [Act.put, List.setIfInBounds_toArray, List.set]
  replace HX0 := Lib.hid (HX0.out.ext hbr8)
  replace HX1 := Lib.hid (HX1.out.ext hbr8)
  replace HB5 := Lib.hid (HB5.out.ext hbr8)
  replace HB := Lib.hid (HB.out.trans (hbr8.mono (show N ≤ _ by have := HB.out.size; have := HN.out; omega)))
  clear hbr8
  go_upto_region 7 with fail
  refine wp_region_whole [0, 1, 2, 3, 4, 5, 6, 7, 8, 9, 10, 11, 12, 13, 16] [⟨14, _, 86, (WB 0), 7, 15, _, 86, 39, (WB r)⟩] [15, 14] (by kernel_rfl) (by kernel_rfl) (List.forall_mem_cons.2 ⟨⟨⟨rfl, rfl, rfl, fun a w => alloc_run _ _ zWo a _ rfl w⟩, rfl, rfl, rfl, rfl, (WB_rw r).info (by kernel_rfl), (WB_rw 0).same (WB_rw r), (WB_rw r).one⟩, (List.forall_mem_nil _)⟩) rfl ?_
  simp only [List.foldl, List.eraseIdx_cons_succ, List.eraseIdx_cons_zero]
  refine upW_val (by rfl) (by rfl) (by rfl) (fun K hK => quiet_load_ct _ _ rfl B8 rfl 86 (WB c3) 4 (WB_rw c3) _ HB8.out Try.underlying86 rfl (by kernel_rfl) (hK _ ?_))
  simp only [Act.put, List.setIfInBounds_toArray, List.set]
  refine upW_late (by rfl) (.agg (WB 1)) (fun w => run_built _ _ _ _ rfl _ (by kernel_rfl) w) ?_
  simp only [Act.put, List.setIfInBounds_toArray, List.set]
  refine upW_call (by rfl) (by rfl) (.agg (WB c5)) _ rfl (by simp) (fun p => ?_) ?_
  · go_big_quiet_op
    exact ⟨_, fun q => Calls.ext_of (HQ6.out q.x), rfl⟩
  simp only [Act.put, List.setIfInBounds_toArray, List.set]
  refine upW_call (by rfl) (by rfl) (.agg (WB cD)) _ rfl (by simp) (fun p => ?_) ?_
  · go_big_quiet_op
    exact ⟨_, fun q => Calls.ext_of (dee_any q.x), rfl⟩
  simp only [Act.put, List.setIfInBounds_toArray, List.set]
  refine upW_val (by rfl) (by rfl) (by rfl) (fun K hK => quiet_load_ct _ _ rfl B8 rfl 86 (WB c3) 4 (WB_rw c3) _ HB8.out Try.underlying86 rfl (by kernel_rfl) (hK _ ?_))
  simp only [Act.put, List.setIfInBounds_toArray, List.set]
  refine upW_call (by rfl) (by rfl) (.agg (WB c7)) _ rfl (by simp) (fun p => ?_) ?_
  · go_big_quiet_op
    exact ⟨_, fun q => Calls.ext_of (HQ8.out q.x), rfl⟩
  simp only [Act.put, List.setIfInBounds_toArray, List.set]
  refine upW_late (by rfl) (.agg (WB 1)) (fun w => run_built _ _ _ _ rfl _ (by kernel_rfl) w) ?_
  simp only [Act.put, List.setIfInBounds_toArray, List.set]
  refine upW_call (by rfl) (by rfl) (.agg (WB c9)) _ rfl (by simp) (fun p => ?_) ?_
  · go_big_quiet_op
    exact ⟨_, fun q => Calls.ext_of (HQ10.out q.x), rfl⟩
  simp only [Act.put, List.setIfInBounds_toArray, List.set]
  refine upW_call (by rfl) (by rfl) (.agg (WB c11)) _ rfl (by simp) (fun p => ?_) ?_
  · go_big_quiet_op
    exact ⟨_, fun q => Calls.ext_of (HQ12.out q.x), rfl⟩
  simp only [Act.put, List.setIfInBounds_toArray, List.set]
  refine upW_call (by rfl) (by rfl) (.agg (WB c13)) _ rfl (by simp) (fun p => ?_) ?_
  · go_big_quiet_op
    exact ⟨_, fun q => Calls.ext_of (HQ14.out q.x), rfl⟩
  simp only [Act.put, List.setIfInBounds_toArray, List.set]
  refine upW_call (by rfl) (by rfl) (.tuple #[.agg (WB r), .bool true]) _ rfl (by simp) (fun p => ?_) ?_
  · go_big_quiet_op
    exact ⟨_, fun q => Calls.ext_of (HQ15.out q.x), rfl⟩
  simp only [Act.put, List.setIfInBounds_toArray, List.set]
  refine upW_val (by rfl) (by rfl) (by rfl) ?_
  intro K hK
  go_big_quiet_op
  refine hK _ ?_
  refine upW_late (by rfl) (.agg (WB r)) (fun _ => rfl) ?_
  simp only [Act.put, List.setIfInBounds_toArray, List.set]
  refine upW_late (by rfl) (.bool true) (fun _ => rfl) ?_
  simp only [Act.put, List.setIfInBounds_toArray, List.set]
  refine upW_val (by rfl) (by rfl) (by rfl) ?_
  intro K hK
  go_big_quiet_op
  refine hK _ ?_
  refine upW_nil ⟨(List.forall_mem_cons.2 ⟨rfl, (List.forall_mem_nil _)⟩), fun M wr9 hM hne hbr9 => ?_⟩
  have hm0 := hM _ (List.mem_cons_self ..)
  clear hM hne
  simp only [List.foldr, pS, Act.put, List.setIfInBounds_toArray, List.set]
  obtain ⟨B9x0, hB9x0⟩ : ∃ m, M 14 = m := ⟨_, rfl⟩
  have HB9x0 := Lib.hid (show CT wr9 B9x0 86 (WB r) by rw [← hB9x0]; exact hm0.2)
  have hlB9x0X0 : N < B9x0 := by rw [← hB9x0]; exact Nat.lt_of_lt_of_le HX0.out.lt hm0.1
  have hlB9x0X1 : (N + 1) < B9x0 := by rw [← hB9x0]; exact Nat.lt_of_lt_of_le HX1.out.lt hm0.1
  have hlB9x0B5 : B5 < B9x0 := by rw [← hB9x0]; exact Nat.lt_of_lt_of_le HB5.out.lt hm0.1
  have hlB9x0B8 : B8 < B9x0 := by rw [← hB9x0]; exact Nat.lt_of_lt_of_le HB8.out.lt hm0.1
  have hNB9x0 : N ≤ B9x0 := by rw [← hB9x0]; exact Nat.le_trans (by have := HB.out.size; have := HN.out; omega) hm0.1
  rw [hB9x0]
  clear hm0 hB9x0
  replace HX0 := Lib.hid (HX0.out.ext hbr9)
  replace HX1 := Lib.hid (HX1.out.ext hbr9)
  replace HB5 := Lib.hid (HB5.out.ext hbr9)
  replace HB8 := Lib.hid (HB8.out.ext hbr9)
  replace HB := Lib.hid (HB.out.trans (hbr9.mono (show N ≤ _ by have := HB.out.size; have := HN.out; omega)))
  clear hbr9
  go_upto_region 8 with fail
  refine wp_region_seq 9 ?_
  simp only [List.take_succ_cons, List.take_zero, List.drop_succ_cons, List.drop_zero]
  refine upW_val (by rfl) (by rfl) (by rfl) ?_
  intro K hK
  go_big_quiet_op
  refine hK _ ?_
  refine upW_val (by rfl) (by rfl) (by rfl) ?_
  intro K hK
  go_big_quiet_op
  refine hK _ ?_
  refine upW_val (by rfl) (by rfl) (by rfl) ?_
  intro K hK
  go_big_quiet_op
  refine hK _ ?_
  refine upW_val (by rfl) (by rfl) (by rfl) ?_
  intro K hK
  go_big_quiet_op
  refine hK _ ?_
  refine upW_val (by rfl) (by rfl) (by rfl) ?_
  intro K hK
  go_big_quiet_op
  refine hK _ ?_
  refine upW_val (by rfl) (by rfl) (by rfl) (fun K hK => quiet_load_ct _ _ rfl B9x0 rfl 86 (WB r) 4 (WB_rw r) _ HB9x0.out Try.underlying86 rfl (by kernel_rfl) (hK _ ?_))
  simp only [Act.put, List.setIfInBounds_toArray, List.set]
  refine upW_late (by rfl) (.agg (WB 0)) (fun w => run_built _ _ _ _ rfl _ (by kernel_rfl) w) ?_
  simp only [Act.put, List.setIfInBounds_toArray, List.set]
  refine upW_late (by rfl) (.bool false) (fun w => run_eqW4 _ _ _ _ rfl r.val (0 : Fp).val rfl rfl r.lt256 (by decide) false HRZ.out w) ?_
  simp only [Act.put, List.setIfInBounds_toArray, List.set]
  refine upW_val (by rfl) (by rfl) (by rfl) ?_
  intro K hK
  go_big_quiet_op
  refine hK _ ?_
  refine upW_nil (fun wr10 hbr10 => ?_)
  replace HX0 := Lib.hid (HX0.out.ext hbr10)
  replace HX1 := Lib.hid (HX1.out.ext hbr10)
  replace HB5 := Lib.hid (HB5.out.ext hbr10)
  replace HB8 := Lib.hid (HB8.out.ext hbr10)
  replace HB9x0 := Lib.hid (HB9x0.out.ext hbr10)
  replace HB := Lib.hid (HB.out.trans (hbr10.mono (show N ≤ _ by have := HB.out.size; have := HN.out; omega)))
  clear hbr10
  go_upto_region 11 with fail
  refine wp_region_seq 3 ?_
  simp only [List.take_succ_cons, List.take_zero, List.drop_succ_cons, List.drop_zero]
  refine upW_late (by rfl) (.agg (WB 0)) (fun w => run_built _ _ _ _ rfl _ (by kernel_rfl) w) ?_
  simp only [Act.put, List.setIfInBounds_toArray, List.set]
  refine upW_val (by rfl) (by rfl) (by rfl) (fun K hK => quiet_load_ct _ _ rfl B9x0 rfl 86 (WB r) 4 (WB_rw r) _ HB9x0.out Try.underlying86 rfl (by kernel_rfl) (hK _ ?_))
  simp only [Act.put, List.setIfInBounds_toArray, List.set]
  refine upW_call (by rfl) (by rfl) (.agg (WB c16)) _ rfl (by simp) (fun p => ?_) ?_
  · go_big_quiet_op
    exact ⟨_, fun q => Calls.ext_of (HQ17.out q.x), rfl⟩
  simp only [Act.put, List.setIfInBounds_toArray, List.set]
  refine upW_nil (fun wr11 hbr11 => ?_)
  replace HX0 := Lib.hid (HX0.out.ext hbr11)
  replace HX1 := Lib.hid (HX1.out.ext hbr11)
  replace HB5 := Lib.hid (HB5.out.ext hbr11)
  replace HB8 := Lib.hid (HB8.out.ext hbr11)
  replace HB9x0 := Lib.hid (HB9x0.out.ext hbr11)
  replace HB := Lib.hid (HB.out.trans (hbr11.mono (show N ≤ _ by have := HB.out.size; have := HN.out; omega)))
  clear hbr11
  refine wpList_store_ct rfl 86 _ _ rfl B9x0 (WB c16) rfl rfl 86 (WB r) 4 HB9x0.out (by kernel_rfl) (WB_rw r) (WB_rw c16) rfl (fun wr12 hSwr12 hOwr12 hWwr12 => ?_)
  replace HB9x0 := Lib.hid hSwr12
  replace HB := Lib.hid (hWwr12 _ _ HB.out (by omega))
  replace HX0 := Lib.hid (HX0.out.other (hOwr12 _ (by omega)))
  replace HX1 := Lib.hid (HX1.out.other (hOwr12 _ (by omega)))
  replace HB5 := Lib.hid (HB5.out.other (hOwr12 _ (by omega)))
  replace HB8 := Lib.hid (HB8.out.other (hOwr12 _ (by omega)))
  clear hSwr12 hOwr12 hWwr12
  go_upto_region 12 with fail
  refine wp_region_seq 3 ?_
  simp only [List.take_succ_cons, List.take_zero, List.drop_succ_cons, List.drop_zero]
  refine upW_val (by rfl) (by rfl) (by rfl) (fun K hK => quiet_load_ct _ _ rfl B9x0 rfl 86 (WB c16) 4 (WB_rw c16) _ HB9x0.out Try.underlying86 rfl (by kernel_rfl) (hK _ ?_))
  simp only [Act.put, List.setIfInBounds_toArray, List.set]
  refine upW_val (by rfl) (by rfl) (by rfl) (fun K hK => quiet_load_ct _ _ rfl B5 rfl 86 (WB y) 4 (WB_rw y) _ HB5.out Try.underlying86 rfl (by kernel_rfl) (hK _ ?_))
  simp only [Act.put, List.setIfInBounds_toArray, List.set]
  refine upW_call (by rfl) (by rfl) (.agg (WR c16 y 1 c18)) _ rfl (by simp) (fun p => ?_) ?_
  · go_big_quiet_op
    exact ⟨_, fun q => Calls.ext_of (HQ19.out q.x), rfl⟩
  simp only [Act.put, List.setIfInBounds_toArray, List.set]
  refine upW_nil (fun wr13 hbr13 => ?_)
  replace HX0 := Lib.hid (HX0.out.ext hbr13)
  replace HX1 := Lib.hid (HX1.out.ext hbr13)
  replace HB5 := Lib.hid (HB5.out.ext hbr13)
  replace HB8 := Lib.hid (HB8.out.ext hbr13)
  replace HB9x0 := Lib.hid (HB9x0.out.ext hbr13)
  replace HB := Lib.hid (HB.out.trans (hbr13.mono (show N ≤ _ by have := HB.out.size; have := HN.out; omega)))
  clear hbr13
  refine wpList_store_ct rfl 88 _ _ rfl (N + 1) (WR c16 y 1 c18) rfl rfl 88 (WR 0 0 0 0) 16 HX1.out (by kernel_rfl) (WR_rw 0 0 0 0) (WR_rw c16 y 1 c18) rfl (fun wr14 hSwr14 hOwr14 hWwr14 => ?_)
  replace HX1 := Lib.hid hSwr14
  replace HB := Lib.hid (hWwr14 _ _ HB.out (by omega))
  replace HX0 := Lib.hid (HX0.out.other (hOwr14 _ (by omega)))
  replace HB5 := Lib.hid (HB5.out.other (hOwr14 _ (by omega)))
  replace HB8 := Lib.hid (HB8.out.other (hOwr14 _ (by omega)))
  replace HB9x0 := Lib.hid (HB9x0.out.other (hOwr14 _ (by omega)))
  clear hSwr14 hOwr14 hWwr14
  go_wp2
  refine bodyPost_ret (results_ct_slot (p := 2) (q := 3) (by rfl) _ _ (N + 1) 88 (WR c16 y 1 c18) 16 _ (.bool true) (by rfl) HX1.out (WR_rw c16 y 1 c18) Try.underlying88 rfl (by kernel_rfl) rfl) rfl ⟨by first | rfl | (simp only [HE3.out, HE5.out, HE7.out, HE9.out, HE11.out, HE13.out, HE16.out, HE18.out]), by rw [HN.out]; exact HB.out⟩
set_option maxRecDepth 100000 in
set_option maxHeartbeats 1000000 in
theorem open_e (n m : Nat) (o : Bool) (hn : n < 115792089237316195423570985008687907853269984665640564039457584007913129639936) (hm : n % 57896044618658097711785492504343953926634992332820282019728792003956564819968 = m) (ho : decide (57896044618658097711785492504343953926634992332820282019728792003956564819968 ≤ n) = o) (y : Fp) (hy : y.val = m) (hf : fis (sqx y) = true) (hod : o = false) (w : World) :
    Calls Try.prog 76 #[.agg (PB n)] w fun e w' => e = .returned (.tuple #[.agg (WR (frt (sqx y)) y 1 (frt (sqx y) * y)), .bool true]) ∧ Below w.heap.size w w' := by
  obtain ⟨v, hv⟩ : ∃ v, n / 452312848583266388373324160190187140051835877600158453279131187530910662656 = v := ⟨_, rfl⟩
  have HV := Lib.hid (show (PB n)[31]? = some (.int .u8 (v : Int)) by rw [← hv]; exact PB_31 n hn)
  have HV2 := Lib.hid (show v < 256 by omega)
  obtain ⟨n2, hn2⟩ : ∃ k, k = m := ⟨_, rfl⟩
  have HW := Lib.hid (show (PB n).setIfInBounds 31 (.int .u8 ((v % 128 : Nat) : Int)) = PB n2 from PB_set31 n n2 (v % 128) hn (by omega) (by omega))
  have HML := Lib.hid (show n2 < 115792089237316195423570985008687907853269984665640564039457584007913129639936 by omega)
  have HO := Lib.hid (show (!(((v / 128 * 128 : Nat) : Int) == 0)) = o by
    rw [← ho, Bool.eq_iff_iff]
    simp
    omega)
  clear hv
  obtain rfl : n2 = y.val := by omega
  have HNE := Lib.hid (show (!decide (y.val = y.val)) = false by simp)
  have HFI := Lib.hid hf
  obtain ⟨r, hr⟩ : ∃ r : Fp, frt (sqx y) = r := ⟨_, rfl⟩
  have HRT := Lib.hid hr
  subst hod
  rw [hr]
  clear hn hm ho hf hr hy hn2
  have HQ1 := Lib.hid (fun w => PB.fromB y w)
  have HQ2 := Lib.hid (fun w => WB.rest y w)
  obtain ⟨c3, hc3⟩ : ∃ zq : Fp, zq = y * y := ⟨_, rfl⟩
  have HE3 := Lib.hid hc3
  clear hc3
  have HQ4 := Lib.hid (fun w => WB.mul y y w)
  rw [← HE3.out] at HQ4
  obtain ⟨c5, hc5⟩ : ∃ zq : Fp, zq = c3 - 1 := ⟨_, rfl⟩
  have HE5 := Lib.hid hc5
  clear hc5
  have HQ6 := Lib.hid (fun w => WB.sub c3 1 w)
  rw [← HE5.out] at HQ6
  obtain ⟨c7, hc7⟩ : ∃ zq : Fp, zq = cD * c3 := ⟨_, rfl⟩
  have HE7 := Lib.hid hc7
  clear hc7
  have HQ8 := Lib.hid (fun w => WB.mul cD c3 w)
  rw [← HE7.out] at HQ8
  obtain ⟨c9, hc9⟩ : ∃ zq : Fp, zq = c7 + 1 := ⟨_, rfl⟩
  have HE9 := Lib.hid hc9
  clear hc9
  have HQ10 := Lib.hid (fun w => WB.add c7 1 w)
  rw [← HE9.out] at HQ10
  obtain ⟨c11, hc11⟩ : ∃ zq : Fp, zq = finv c9 := ⟨_, rfl⟩
  have HE11 := Lib.hid hc11
  clear hc11
  have HQ12 := Lib.hid (fun w => WB.inv c9 w)
  rw [← HE11.out] at HQ12
  obtain ⟨c13, hc13⟩ : ∃ zq : Fp, zq = c5 * c11 := ⟨_, rfl⟩
  have HE13 := Lib.hid hc13
  clear hc13
  have HQ14 := Lib.hid (fun w => WB.mul c5 c11 w)
  rw [← HE13.out] at HQ14
  have HQ15 := Lib.hid (fun w => WB.root c13 w)
  rw [show fis c13 = true by simp only [HE3.out, HE5.out, HE7.out, HE9.out, HE11.out, HE13.out]; exact HFI.out, show frt c13 = r by simp only [HE3.out, HE5.out, HE7.out, HE9.out, HE11.out, HE13.out]; exact HRT.out] at HQ15
  obtain ⟨c16, hc16⟩ : ∃ zq : Fp, zq = r * y := ⟨_, rfl⟩
  have HE16 := Lib.hid hc16
  clear hc16
  have HQ17 := Lib.hid (fun w => flatP_any r y w)
  rw [← HE16.out] at HQ17
  have hz0 := zPo
  have hz1 := zWo
  go_enter Try.func76, Try.ntmps76
  go_upto_region 1 with fail
  generalize hW1 : World.alloc _ _ = W1
  obtain ⟨N, hN⟩ : ∃ n, w.heap.size = n := ⟨_, rfl⟩
  have HX0 := Lib.hid (show CT W1 N 23 (PB n) by subst hW1; rw [← hN]; exact (allocs2_at w _ _).1)
  have HX1 := Lib.hid (show CT W1 (N + 1) 88 (WR 0 0 0 0) by subst hW1; rw [← hN]; exact (allocs2_at w _ _).2)
  have HB := Lib.hid (show Below N w W1 by subst hW1; rw [← hN]; exact allocs2_below w _ _)
  have HN := Lib.hid hN
  rw [hN]
  clear hW1 hN
  refine wp_region_seq 4 ?_
  simp only [List.take_succ_cons, List.take_zero, List.drop_succ_cons, List.drop_zero]
  refine upW_late (by rfl) (.pointer (some ⟨N, 31, none⟩)) (fun _ => by kernel_rfl) ?_
  simp only [Act.put, List.setIfInBounds_toArray, List.set]
  refine upW_val (by rfl) (by rfl) (by rfl) (fun K hK => quiet_load_byte _ rfl N 31 rfl 23 (PB n) HX0.out (.int .u8 (v : Int)) HV.out (hK _ ?_))
  simp only [Act.put, List.setIfInBounds_toArray, List.set]
  refine upW_late (by rfl) (.int .u8 ((v / 128 * 128 : Nat) : Int)) (fun w => run_and8 _ _ _ _ _ rfl (v : Int) 128 rfl rfl ((v / 128 * 128 : Nat) : Int) (and128 v HV2.out) w) ?_
  simp only [Act.put, List.setIfInBounds_toArray, List.set]
  refine upW_late (by rfl) (.bool false) (fun w => run_neq8 _ _ _ _ rfl ((v / 128 * 128 : Nat) : Int) 0 rfl rfl false HO.out w) ?_
  simp only [Act.put, List.setIfInBounds_toArray, List.set]
  refine upW_nil (fun wr1 hbr1 => ?_)
  replace HX0 := Lib.hid (HX0.out.ext hbr1)
  replace HX1 := Lib.hid (HX1.out.ext hbr1)
  replace HB := Lib.hid (HB.out.trans (hbr1.mono (show N ≤ _ by have := HB.out.size; have := HN.out; omega)))
  clear hbr1
  go_upto_region 2 with fail
  refine wp_region_seq 4 ?_
  simp only [List.take_succ_cons, List.take_zero, List.drop_succ_cons, List.drop_zero]
  refine upW_late (by rfl) (.pointer (some ⟨N, 31, none⟩)) (fun _ => by kernel_rfl) ?_
  simp only [Act.put, List.setIfInBounds_toArray, List.set]
  refine upW_val (by rfl) (by rfl) (by rfl) (fun K hK => quiet_load_byte _ rfl N 31 rfl 23 (PB n) HX0.out (.int .u8 (v : Int)) HV.out (hK _ ?_))
  simp only [Act.put, List.setIfInBounds_toArray, List.set]
  refine upW_late (by rfl) (.int .u8 ((v % 128 : Nat) : Int)) (fun w => run_and8 _ _ _ _ _ rfl (v : Int) 127 rfl rfl ((v % 128 : Nat) : Int) (and127 v HV2.out) w) ?_
  simp only [Act.put, List.setIfInBounds_toArray, List.set]
  refine upW_late (by rfl) (.pointer (some ⟨N, 31, none⟩)) (fun _ => by kernel_rfl) ?_
  simp only [Act.put, List.setIfInBounds_toArray, List.set]
  refine upW_nil (fun wr2 hbr2 => ?_)
  replace HX0 := Lib.hid (HX0.out.ext hbr2)
  replace HX1 := Lib.hid (HX1.out.ext hbr2)
  replace HB := Lib.hid (HB.out.trans (hbr2.mono (show N ≤ _ by have := HB.out.size; have := HN.out; omega)))
  clear hbr2
  refine wpList_store_byte rfl _ _ rfl N 31 rfl ((v % 128 : Nat) : Int) rfl 23 (PB n) (PB y.val) HX0.out (by rw [(PB_rw n).size]; decide) HW.out rfl (fun wr3 hSwr3 hOwr3 hWwr3 => ?_)
  replace HX0 := Lib.hid hSwr3
  replace HB := Lib.hid (hWwr3 _ _ HB.out (by omega))
  replace HX1 := Lib.hid (HX1.out.other (hOwr3 _ (by omega)))
  clear hSwr3 hOwr3 hWwr3
  go_upto_region 3 with fail
  refine wp_region_seq 2 ?_
  simp only [List.take_succ_cons, List.take_zero, List.drop_succ_cons, List.drop_zero]
  refine upW_val (by rfl) (by rfl) (by rfl) (fun K hK => quiet_load_ct _ _ rfl N rfl 23 (PB y.val) 32 (PB_rw y.val) _ HX0.out Try.underlying23 rfl (by kernel_rfl) (hK _ ?_))
  simp only [Act.put, List.setIfInBounds_toArray, List.set]
  refine upW_call (by rfl) (by rfl) (.agg (WB y)) _ rfl (by simp) (fun p => ?_) ?_
  · go_big_quiet_op
    exact ⟨_, fun q => Calls.ext_of (HQ1.out q.x), rfl⟩
  simp only [Act.put, List.setIfInBounds_toArray, List.set]
  refine upW_nil (fun wr4 hbr4 => ?_)
  replace HX0 := Lib.hid (HX0.out.ext hbr4)
  replace HX1 := Lib.hid (HX1.out.ext hbr4)
  replace HB := Lib.hid (HB.out.trans (hbr4.mono (show N ≤ _ by have := HB.out.size; have := HN.out; omega)))
  clear hbr4
  refine wpList_new1 rfl 86 rfl (WB 0) zWo rfl _ _ rfl rfl (WB y) 4 (WB_rw y) (WB_rw 0).size (by kernel_rfl) rfl rfl (fun B5 wr5 hB5 hbr5 hCB5 => ?_)
  have HB5 := Lib.hid hCB5
  have hlB5X0 : N < B5 := by rw [← hB5]; exact HX0.out.lt
  have hlB5X1 : (N + 1) < B5 := by rw [← hB5]; exact HX1.out.lt
  have hNB5 : N ≤ B5 := by rw [← hB5]; have := HB.out.size; have := HN.out; omega
  clear hB5 hCB5
  simp only [Act.put, List.setIfInBounds_toArray, List.set]
  replace HX0 := Lib.hid (HX0.out.ext hbr5)
  replace HX1 := Lib.hid (HX1.out.ext hbr5)
  replace HB := Lib.hid (HB.out.trans (hbr5.mono (show N ≤ _ by have := HB.out.size; have := HN.out; omega)))
  clear hbr5
  go_upto_region 4 with fail
  refine wp_region_whole [0, 1, 2, 3] [] [] (by kernel_rfl) (by kernel_rfl) (List.forall_mem_nil _) rfl ?_
  simp only [List.foldl]
  refine upW_val (by rfl) (by rfl) (by rfl) (fun K hK => quiet_load_ct _ _ rfl B5 rfl 86 (WB y) 4 (WB_rw y) _ HB5.out Try.underlying86 rfl (by kernel_rfl) (hK _ ?_))
  simp only [Act.put, List.setIfInBounds_toArray, List.set]
  refine upW_call (by rfl) (by rfl) (.agg (WB y)) _ rfl (by simp) (fun p => ?_) ?_
  · go_big_quiet_op
    exact ⟨_, fun q => Calls.ext_of (HQ2.out q.x), rfl⟩
  simp only [Act.put, List.setIfInBounds_toArray, List.set]
  refine upW_val (by rfl) (by rfl) (by rfl) (fun K hK => quiet_load_ct _ _ rfl B5 rfl 86 (WB y) 4 (WB_rw y) _ HB5.out Try.underlying86 rfl (by kernel_rfl) (hK _ ?_))
  simp only [Act.put, List.setIfInBounds_toArray, List.set]
  refine upW_late (by rfl) (.bool false) (fun w => run_neW4 _ _ _ _ rfl y.val y.val rfl rfl y.lt256 y.lt256 false HNE.out w) ?_
  simp only [Act.put, List.setIfInBounds_toArray, List.set]
  refine upW_nil ⟨List.forall_mem_nil _, fun M2 wr6 hM2 hne hbr6 => ?_⟩
  simp only [List.foldr]
  clear hM2 hne M2
  replace HX0 := Lib.hid (HX0.out.ext hbr6)
  replace HX1 := Lib.hid (HX1.out.ext hbr6)
  replace HB5 := Lib.hid (HB5.out.ext hbr6)
  replace HB := Lib.hid (HB.out.trans (hbr6.mono (show N ≤ _ by have := HB.out.size; have := HN.out; omega)))
  clear hbr6
  go_upto_region 6 with fail
  refine wp_region_seq 3 ?_
  simp only [List.take_succ_cons, List.take_zero, List.drop_succ_cons, List.drop_zero]
  refine upW_val (by rfl) (by rfl) (by rfl) (fun K hK => quiet_load_ct _ _ rfl B5 rfl 86 (WB y) 4 (WB_rw y) _ HB5.out Try.underlying86 rfl (by kernel_rfl) (hK _ ?_))
  simp only [Act.put, List.setIfInBounds_toArray, List.set]
  refine upW_val (by rfl) (by rfl) (by rfl) (fun K hK => quiet_load_ct _ _ rfl B5 rfl 86 (WB y) 4 (WB_rw y) _ HB5.out Try.underlying86 rfl (by kernel_rfl) (hK _ ?_))
  simp only [Act.put, List.setIfInBounds_toArray, List.set]
  refine upW_call (by rfl) (by rfl) (.agg (WB c3)) _ rfl (by simp) (fun p => ?_) ?_
  · go_big_quiet_op
    exact ⟨_, fun q => Calls.ext_of (HQ4.out q.x), rfl⟩
  simp only [Act.put, List.setIfInBounds_toArray, List.set]
  refine upW_nil (fun wr7 hbr7 => ?_)
  replace HX0 := Lib.hid (HX0.out.ext hbr7)
  replace HX1 := Lib.hid (HX1.out.ext hbr7)
  replace HB5 := Lib.hid (HB5.out.ext hbr7)
  replace HB := Lib.hid (HB.out.trans (hbr7.mono (show N ≤ _ by have := HB.out.size; have := HN.out; omega)))
  clear hbr7
  refine wpList_new1 rfl 86 rfl (WB 0) zWo rfl _ _ rfl rfl (WB c3) 4 (WB_rw c3) (WB_rw 0).size (by kernel_rfl) rfl rfl (fun B8 wr8 hB8 hbr8 hCB8 => ?_)
  have HB8 := Lib.hid hCB8
  have hlB8X0 : N < B8 := by rw [← hB8]; exact HX0.out.lt
  have hlB8X1 : (N + 1) < B8 := by rw [← hB8]; exact HX1.out.lt
  have hlB8B5 : B5 < B8 := by rw [← hB8]; exact HB5.out.lt
  have hNB8 : N ≤ B8 := by rw [← hB8]; have := HB.out.size; have := HN.out; omega
  clear hB8 hCB8
  simp only [Act.put, List.setIfInBounds_toArray, List.set]
  replace HX0 := Lib.hid (HX0.out.ext hbr8)
  replace HX1 := Lib.hid (HX1.out.ext hbr8)
  replace HB5 := Lib.hid (HB5.out.ext hbr8)
  replace HB := Lib.hid (HB.out.trans (hbr8.mono (show N ≤ _ by have := HB.out.size; have := HN.out; omega)))
  clear hbr8
  go_upto_region 7 with fail
  refine wp_region_whole [0, 1, 2, 3, 4, 5, 6, 7, 8, 9, 10, 11, 12, 13, 16] [⟨14, _, 86, (WB 0), 7, 15, _, 86, 39, (WB r)⟩] [15, 14] (by kernel_rfl) (by kernel_rfl) (List.forall_mem_cons.2 ⟨⟨⟨rfl, rfl, rfl, fun a w => alloc_run _ _ zWo a _ rfl w⟩, rfl, rfl, rfl, rfl, (WB_rw r).info (by kernel_rfl), (WB_rw 0).same (WB_rw r), (WB_rw r).one⟩, (List.forall_mem_nil _)⟩) rfl ?_
  simp only [List.foldl, List.eraseIdx_cons_succ, List.eraseIdx_cons_zero]
  refine upW_val (by rfl) (by rfl) (by rfl) (fun K hK => quiet_load_ct _ _ rfl B8 rfl 86 (WB c3) 4 (WB_rw c3) _ HB8.out Try.underlying86 rfl (by kernel_rfl) (hK _ ?_))
  simp only [Act.put, List.setIfInBounds_toArray, List.set]
  refine upW_late (by rfl) (.agg (WB 1)) (fun w => run_built _ _ _ _ rfl _ (by kernel_rfl) w) ?_
  simp only [Act.put, List.setIfInBounds_toArray, List.set]
  refine upW_call (by rfl) (by rfl) (.agg (WB c5)) _ rfl (by simp) (fun p => ?_) ?_
  · go_big_quiet_op
    exact ⟨_, fun q => Calls.ext_of (HQ6.out q.x), rfl⟩
  simp only [Act.put, List.setIfInBounds_toArray, List.set]
  refine upW_call (by rfl) (by rfl) (.agg (WB cD)) _ rfl (by simp) (fun p => ?_) ?_
  · go_big_quiet_op
    exact ⟨_, fun q => Calls.ext_of (dee_any q.x), rfl⟩
  simp only [Act.put, List.setIfInBounds_toArray, List.set]
  refine upW_val (by rfl) (by rfl) (by rfl) (fun K hK => quiet_load_ct _ _ rfl B8 rfl 86 (WB c3) 4 (WB_rw c3) _ HB8.out Try.underlying86 rfl (by kernel_rfl) (hK _ ?_))
  simp only [Act.put, List.setIfInBounds_toArray, List.set]
  refine upW_call (by rfl) (by rfl) (.agg (WB c7)) _ rfl (by simp) (fun p => ?_) ?_
  · go_big_quiet_op
    exact ⟨_, fun q => Calls.ext_of (HQ8.out q.x), rfl⟩
  simp only [Act.put, List.setIfInBounds_toArray, List.set]
  refine upW_late (by rfl) (.agg (WB 1)) (fun w => run_built _ _ _ _ rfl _ (by kernel_rfl) w) ?_
  simp only [Act.put, List.setIfInBounds_toArray, List.set]
  refine upW_call (by rfl) (by rfl) (.agg (WB c9)) _ rfl (by simp) (fun p => ?_) ?_
  · go_big_quiet_op
    exact ⟨_, fun q => Calls.ext_of (HQ10.out q.x), rfl⟩
  simp only [Act.put, List.setIfInBounds_toArray, List.set]
  refine upW_call (by rfl) (by rfl) (.agg (WB c11)) _ rfl (by simp) (fun p => ?_) ?_
  · go_big_quiet_op
    exact ⟨_, fun q => Calls.ext_of (HQ12.out q.x), rfl⟩
  simp only [Act.put, List.setIfInBounds_toArray, List.set]
  refine upW_call (by rfl) (by rfl) (.agg (WB c13)) _ rfl (by simp) (fun p => ?_) ?_
  · go_big_quiet_op
    exact ⟨_, fun q => Calls.ext_of (HQ14.out q.x), rfl⟩
  simp only [Act.put, List.setIfInBounds_toArray, List.set]
  refine upW_call (by rfl) (by rfl) (.tuple #[.agg (WB r), .bool true]) _ rfl (by simp) (fun p => ?_) ?_
  · go_big_quiet_op
    exact ⟨_, fun q => Calls.ext_of (HQ15.out q.x), rfl⟩
  simp only [Act.put, List.setIfInBounds_toArray, List.set]
  refine upW_val (by rfl) (by rfl) (by rfl) ?_
  intro K hK
  go_big_quiet_op
  refine hK _ ?_
  refine upW_late (by rfl) (.agg (WB r)) (fun _ => rfl) ?_
  simp only [Act.put, List.setIfInBounds_toArray, List.set]
  refine upW_late (by rfl) (.bool true) (fun _ => rfl) ?_
  simp only [Act.put, List.setIfInBounds_toArray, List.set]
  refine upW_val (by rfl) (by rfl) (by rfl) ?_
  intro K hK
  go_big_quiet_op
  refine hK _ ?_
  refine upW_nil ⟨(List.forall_mem_cons.2 ⟨rfl, (List.forall_mem_nil _)⟩), fun M wr9 hM hne hbr9 => ?_⟩
  have hm0 := hM _ (List.mem_cons_self ..)
  clear hM hne
  simp only [List.foldr, pS, Act.put, List.setIfInBounds_toArray, List.set]
  obtain ⟨B9x0, hB9x0⟩ : ∃ m, M 14 = m := ⟨_, rfl⟩
  have HB9x0 := Lib.hid (show CT wr9 B9x0 86 (WB r) by rw [← hB9x0]; exact hm0.2)
  have hlB9x0X0 : N < B9x0 := by rw [← hB9x0]; exact Nat.lt_of_lt_of_le HX0.out.lt hm0.1
  have hlB9x0X1 : (N + 1) < B9x0 := by rw [← hB9x0]; exact Nat.lt_of_lt_of_le HX1.out.lt hm0.1
  have hlB9x0B5 : B5 < B9x0 := by rw [← hB9x0]; exact Nat.lt_of_lt_of_le HB5.out.lt hm0.1
  have hlB9x0B8 : B8 < B9x0 := by rw [← hB9x0]; exact Nat.lt_of_lt_of_le HB8.out.lt hm0.1
  have hNB9x0 : N ≤ B9x0 := by rw [← hB9x0]; exact Nat.le_trans (by have := HB.out.size; have := HN.out; omega) hm0.1
  rw [hB9x0]
  clear hm0 hB9x0
  replace HX0 := Lib.hid (HX0.out.ext hbr9)
  replace HX1 := Lib.hid (HX1.out.ext hbr9)
  replace HB5 := Lib.hid (HB5.out.ext hbr9)
  replace HB8 := Lib.hid (HB8.out.ext hbr9)
  replace HB := Lib.hid (HB.out.trans (hbr9.mono (show N ≤ _ by have := HB.out.size; have := HN.out; omega)))
  clear hbr9
  go_upto_region 8 with fail
  refine wp_region_seq 9 ?_
  simp only [List.take_succ_cons, List.take_zero, List.drop_succ_cons, List.drop_zero]
  refine upW_val (by rfl) (by rfl) (by rfl) ?_
  intro K hK
  go_big_quiet_op
  refine hK _ ?_
  refine upW_val (by rfl) (by rfl) (by rfl) ?_
  intro K hK
  go_big_quiet_op
  refine hK _ ?_
  refine upW_val (by rfl) (by rfl) (by rfl) ?_
  intro K hK
  go_big_quiet_op
  refine hK _ ?_
  refine upW_val (by rfl) (by rfl) (by rfl) ?_
  intro K hK
  go_big_quiet_op
  refine hK _ ?_
  refine upW_val (by rfl) (by rfl) (by rfl) ?_
  intro K hK
  go_big_quiet_op
  refine hK _ ?_
  refine upW_skip (by rfl) ?_
  simp only [Act.put, List.setIfInBounds_toArray, List.set]
  refine upW_skip (by rfl) ?_
  simp only [Act.put, List.setIfInBounds_toArray, List.set]
  refine upW_skip (by rfl) ?_
  simp only [Act.put, List.setIfInBounds_toArray, List.set]
  refine upW_val (by rfl) (by rfl) (by rfl) ?_
  intro K hK
  go_big_quiet_op
  refine hK _ ?_
  refine upW_nil (fun wr10 hbr10 => ?_)
  replace HX0 := Lib.hid (HX0.out.ext hbr10)
  replace HX1 := Lib.hid (HX1.out.ext hbr10)
  replace HB5 := Lib.hid (HB5.out.ext hbr10)
  replace HB8 := Lib.hid (HB8.out.ext hbr10)
  replace HB9x0 := Lib.hid (HB9x0.out.ext hbr10)
  replace HB := Lib.hid (HB.out.trans (hbr10.mono (show N ≤ _ by have := HB.out.size; have := HN.out; omega)))
  clear hbr10
  go_upto_region 12 with fail
  refine wp_region_seq 3 ?_
  simp only [List.take_succ_cons, List.take_zero, List.drop_succ_cons, List.drop_zero]
  refine upW_val (by rfl) (by rfl) (by rfl) (fun K hK => quiet_load_ct _ _ rfl B9x0 rfl 86 (WB r) 4 (WB_rw r) _ HB9x0.out Try.underlying86 rfl (by kernel_rfl) (hK _ ?_))
  simp only [Act.put, List.setIfInBounds_toArray, List.set]
  refine upW_val (by rfl) (by rfl) (by rfl) (fun K hK => quiet_load_ct _ _ rfl B5 rfl 86 (WB y) 4 (WB_rw y) _ HB5.out Try.underlying86 rfl (by kernel_rfl) (hK _ ?_))
  simp only [Act.put, List.setIfInBounds_toArray, List.set]
  refine upW_call (by rfl) (by rfl) (.agg (WR r y 1 c16)) _ rfl (by simp) (fun p => ?_) ?_
  · go_big_quiet_op
    exact ⟨_, fun q => Calls.ext_of (HQ17.out q.x), rfl⟩
  simp only [Act.put, List.setIfInBounds_toArray, List.set]
  refine upW_nil (fun wr11 hbr11 => ?_)
  replace HX0 := Lib.hid (HX0.out.ext hbr11)
  replace HX1 := Lib.hid (HX1.out.ext hbr11)
  replace HB5 := Lib.hid (HB5.out.ext hbr11)
  replace HB8 := Lib.hid (HB8.out.ext hbr11)
  replace HB9x0 := Lib.hid (HB9x0.out.ext hbr11)
  replace HB := Lib.hid (HB.out.trans (hbr11.mono (show N ≤ _ by have := HB.out.size; have := HN.out; omega)))
  clear hbr11
  refine wpList_store_ct rfl 88 _ _ rfl (N + 1) (WR r y 1 c16) rfl rfl 88 (WR 0 0 0 0) 16 HX1.out (by kernel_rfl) (WR_rw 0 0 0 0) (WR_rw r y 1 c16) rfl (fun wr12 hSwr12 hOwr12 hWwr12 => ?_)
  replace HX1 := Lib.hid hSwr12
  replace HB := Lib.hid (hWwr12 _ _ HB.out (by omega))
  replace HX0 := Lib.hid (HX0.out.other (hOwr12 _ (by omega)))
  replace HB5 := Lib.hid (HB5.out.other (hOwr12 _ (by omega)))
  replace HB8 := Lib.hid (HB8.out.other (hOwr12 _ (by omega)))
  replace HB9x0 := Lib.hid (HB9x0.out.other (hOwr12 _ (by omega)))
  clear hSwr12 hOwr12 hWwr12
  go_wp2
  refine bodyPost_ret (results_ct_slot (p := 2) (q := 3) (by rfl) _ _ (N + 1) 88 (WR r y 1 c16) 16 _ (.bool true) (by rfl) HX1.out (WR_rw r y 1 c16) Try.underlying88 rfl (by kernel_rfl) rfl) rfl ⟨by first | rfl | (simp only [HE3.out, HE5.out, HE7.out, HE9.out, HE11.out, HE13.out, HE16.out]), by rw [HN.out]; exact HB.out⟩
theorem open_ok (p : Pt) (w : World) : Calls Try.prog 76 #[.agg (PB (pN p))] w fun e w' => e = .returned (.tuple #[.agg (WR p.x p.y 1 (p.x * p.y)), .bool true]) ∧ Below w.heap.size w w' := by
  have hf := frt_of p
  by_cases ho : p.x.val % 2 = 1
  · rw [if_pos ho] at hf
    have h := open_d (pN p) p.y.val true (pN_lt p) (pN_low p) ((pN_top p).trans (decide_eq_true ho)) p.y rfl (fis_of p) rfl (decide_eq_false (fun h => odd_ne ho (neg_eq0 (hf ▸ h)))) w
    rw [hf, neg_neg'] at h
    exact h
  · rw [if_neg ho] at hf
    have h := open_e (pN p) p.y.val false (pN_lt p) (pN_low p) ((pN_top p).trans (decide_eq_false ho)) p.y rfl (fis_of p) rfl w
    rw [hf] at h
    exact h
theorem open_no (n : Nat) (hn : n < 115792089237316195423570985008687907853269984665640564039457584007913129639936) (h : ∀ p : Pt, pN p ≠ n) (w : World) : Calls Try.prog 76 #[.agg (PB n)] w fun e w' => e = .returned (.tuple #[.agg (WR 0 0 0 0), .bool false]) ∧ Below w.heap.size w w' := by
  by_cases hg : n % 57896044618658097711785492504343953926634992332820282019728792003956564819968 < PP
  · obtain ⟨y, hy⟩ : ∃ y : Fp, y.val = n % 57896044618658097711785492504343953926634992332820282019728792003956564819968 := ⟨⟨_, hg⟩, rfl⟩
    cases hf : fis (sqx y) with
    | false => exact open_b n _ _ hn rfl rfl y hy hf w
    | true =>
      by_cases ho : 57896044618658097711785492504343953926634992332820282019728792003956564819968 ≤ n
      · by_cases hz : frt (sqx y) = 0
        · exact open_c n _ true hn rfl (decide_eq_true ho) y hy hf rfl (decide_eq_true hz) w
        · obtain ⟨p, hp⟩ := pN_d hn hy ho hf hz
          exact (h p hp).elim
      · obtain ⟨p, hp⟩ := pN_e hy ho hf
        exact (h p hp).elim
  · exact open_a n _ _ hn rfl rfl hg w
end Go.Proofs.Ytfmclkmmkceldaa
