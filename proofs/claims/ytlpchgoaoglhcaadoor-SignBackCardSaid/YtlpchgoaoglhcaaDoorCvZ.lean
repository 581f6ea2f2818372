/-
  Package curve's functions of encodings and of points with four numbers: encode, split, onCurve, zero, join, add, double, point.
  Conditions: none.
-/
import Derived.Test.YtlpchgoaoglhcaaDoorMb08
namespace Go.Proofs.YtlpchgoaoglhcaaDoor
open Go.RowKit
set_option linter.unusedSimpArgs false
set_option linter.unusedVariables false
theorem encXY_even (a b : Fp) (h : ¬ a.val % 2 = 1) : encXY a b = b.val := by unfold encXY; omega
theorem encXY_odd (a b : Fp) (h : a.val % 2 = 1) : encXY a b = b.val + 57896044618658097711785492504343953926634992332820282019728792003956564819968 := by unfold encXY; omega
theorem encXY_lt (a b : Fp) : encXY a b < 115792089237316195423570985008687907853269984665640564039457584007913129639936 := by
  have : b.val < 57896044618658097711785492504343953926634992332820282019728792003956564819949 := b.isLt
  unfold encXY; omega
set_option maxRecDepth 100000 in
set_option maxHeartbeats 1000000 in
theorem encode_even {A : Array Value} {a : Fp} (hia : IsN A a) {B : Array Value} {b : Fp} (hib : IsN B b) (ho : decide (a.val % 2 = 1) = false) (w : World) :
    Calls Tryd.prog 57 #[.agg A, .agg B] w fun e w' => e = .returned (.agg (PB (encXY a b))) ∧ Below w.heap.size w w' := by
  have HIa := Lib.hid hia
  have HRa := Lib.hid hia.rw
  clear hia
  have HIb := Lib.hid hib
  have HRb := Lib.hid hib.rw
  clear hib
  have HO := Lib.hid ho
  rw [encXY_even a b (of_decide_eq_false ho)]
  clear ho
  have HQ1 := Lib.hid (fun w => IsN.rest HIb.out w)
  have HQ2 := Lib.hid (fun w => IsN.odd HIa.out w)
  rw [show decide (a.val % 2 = 1) = false from HO.out] at HQ2
  have hz0 := zPt
  go_enter Tryd.func57, Tryd.ntmps57
  go_upto_region 1 with fail
  generalize hW1 : World.alloc _ _ = W1
  obtain ⟨N, hN⟩ : ∃ n, w.heap.size = n := ⟨_, rfl⟩
  have HX0 := Lib.hid (show CT W1 N 102 A by subst hW1; rw [← hN]; exact (allocs3_at w _ _ _).1)
  have HX1 := Lib.hid (show CT W1 (N + 1) 102 B by subst hW1; rw [← hN]; exact (allocs3_at w _ _ _).2.1)
  have HX2 := Lib.hid (show CT W1 (N + 1 + 1) 68 (PB 0) by subst hW1; rw [← hN]; exact (allocs3_at w _ _ _).2.2)
  have HB := Lib.hid (show Below N w W1 by subst hW1; rw [← hN]; exact allocs3_below w _ _ _)
  have HN := Lib.hid hN
  rw [hN]
  clear hW1 hN
  refine wp_region_seq 2 ?_
  simp only [List.take_succ_cons, List.take_zero, List.drop_succ_cons, List.drop_zero]
  refine upW_val (by rfl) (by rfl) (by rfl) (fun K hK => quiet_load_ct _ _ rfl (N + 1) rfl 102 B 32 HRb.out _ HX1.out Tryd.underlying102 rfl (by kernel_rfl) (hK _ ?_))
  simp only [Act.put, List.setIfInBounds_toArray, List.set]
  refine upW_call (by rfl) (by rfl) (.agg (NB b)) _ rfl (by simp) (fun p => ?_) ?_
  · go_big_quiet_op
    exact ⟨_, fun q => Calls.ext_of (HQ1.out q.x), rfl⟩
  simp only [Act.put, List.setIfInBounds_toArray, List.set]
  refine upW_nil (fun wr1 hbr1 => ?_)
  replace HX0 := Lib.hid (HX0.out.ext hbr1)
  replace HX1 := Lib.hid (HX1.out.ext hbr1)
  replace HX2 := Lib.hid (HX2.out.ext hbr1)
  replace HB := Lib.hid (HB.out.trans (hbr1.mono (show N ≤ _ by have := HB.out.size; have := HN.out; omega)))
  clear hbr1
  refine wpList_new1 rfl 68 rfl (PB 0) zPt rfl _ _ rfl rfl (NB b) 32 (NB_rw b) (PB_rw 0).size (by kernel_rfl) rfl rfl (fun B2 wr2 hB2 hbr2 hCB2 => ?_)
  have HB2 := Lib.hid hCB2
  have hlB2X0 : N < B2 := by rw [← hB2]; exact HX0.out.lt
  have hlB2X1 : (N + 1) < B2 := by rw [← hB2]; exact HX1.out.lt
  have hlB2X2 : (N + 1 + 1) < B2 := by rw [← hB2]; exact HX2.out.lt
  have hNB2 : N ≤ B2 := by rw [← hB2]; have := HB.out.size; have := HN.out; omega
  clear hB2 hCB2
  simp only [Act.put, List.setIfInBounds_toArray, List.set]
  replace HX0 := Lib.hid (HX0.out.ext hbr2)
  replace HX1 := Lib.hid (HX1.out.ext hbr2)
  replace HX2 := Lib.hid (HX2.out.ext hbr2)
  replace HB := Lib.hid (HB.out.trans (hbr2.mono (show N ≤ _ by have := HB.out.size; have := HN.out; omega)))
  clear hbr2
  go_upto_region 2 with fail
  refine wp_region_seq 2 ?_
  simp only [List.take_succ_cons, List.take_zero, List.drop_succ_cons, List.drop_zero]
  refine upW_val (by rfl) (by rfl) (by rfl) (fun K hK => quiet_load_ct _ _ rfl N rfl 102 A 32 HRa.out _ HX0.out Tryd.underlying102 rfl (by kernel_rfl) (hK _ ?_))
  simp only [Act.put, List.setIfInBounds_toArray, List.set]
  refine upW_call (by rfl) (by rfl) (.bool false) _ rfl (by simp) (fun p => ?_) ?_
  · go_big_quiet_op
    exact ⟨_, fun q => Calls.ext_of (HQ2.out q.x), rfl⟩
  simp only [Act.put, List.setIfInBounds_toArray, List.set]
  refine upW_nil (fun wr3 hbr3 => ?_)
  replace HX0 := Lib.hid (HX0.out.ext hbr3)
  replace HX1 := Lib.hid (HX1.out.ext hbr3)
  replace HX2 := Lib.hid (HX2.out.ext hbr3)
  replace HB2 := Lib.hid (HB2.out.ext hbr3)
  replace HB := Lib.hid (HB.out.trans (hbr3.mono (show N ≤ _ by have := HB.out.size; have := HN.out; omega)))
  clear hbr3
  go_upto_region 4 with fail
  refine wp_region_seq 1 ?_
  simp only [List.take_succ_cons, List.take_zero, List.drop_succ_cons, List.drop_zero]
  refine upW_val (by rfl) (by rfl) (by rfl) (fun K hK => quiet_load_ct _ _ rfl B2 rfl 68 (NB b) 32 (NB_rw b) _ HB2.out Tryd.underlying68 rfl (by kernel_rfl) (hK _ ?_))
  simp only [Act.put, List.setIfInBounds_toArray, List.set]
  refine upW_nil (fun wr4 hbr4 => ?_)
  replace HX0 := Lib.hid (HX0.out.ext hbr4)
  replace HX1 := Lib.hid (HX1.out.ext hbr4)
  replace HX2 := Lib.hid (HX2.out.ext hbr4)
  replace HB2 := Lib.hid (HB2.out.ext hbr4)
  replace HB := Lib.hid (HB.out.trans (hbr4.mono (show N ≤ _ by have := HB.out.size; have := HN.out; omega)))
  clear hbr4
  refine wpList_store_ct rfl 68 _ _ rfl (N + 1 + 1) (NB b) rfl rfl 68 (PB 0) 32 HX2.out (by kernel_rfl) (PB_rw 0) (NB_rw b) rfl (fun wr5 hSwr5 hOwr5 hWwr5 => ?_)
  replace HX2 := Lib.hid hSwr5
  replace HB := Lib.hid (hWwr5 _ _ HB.out (by omega))
  replace HX0 := Lib.hid (HX0.out.other (hOwr5 _ (by omega)))
  replace HX1 := Lib.hid (HX1.out.other (hOwr5 _ (by omega)))
  replace HB2 := Lib.hid (HB2.out.other (hOwr5 _ (by omega)))
  clear hSwr5 hOwr5 hWwr5
  go_wp2
  refine bodyPost_ret (results_ct (by rfl) _ _ (N + 1 + 1) 68 (NB b) 32 _ (by rfl) HX2.out (NB_rw b) Tryd.underlying68 rfl (by kernel_rfl)) rfl ⟨by first | rfl | (rfl), by rw [HN.out]; exact HB.out⟩
set_option maxRecDepth 100000 in
set_option maxHeartbeats 1000000 in
theorem encode_odd {A : Array Value} {a : Fp} (hia : IsN A a) {B : Array Value} {b : Fp} (hib : IsN B b) (ho : decide (a.val % 2 = 1) = true) (w : World) :
    Calls Tryd.prog 57 #[.agg A, .agg B] w fun e w' => e = .returned (.agg (PB (encXY a b))) ∧ Below w.heap.size w w' := by
  have HIa := Lib.hid hia
  have HRa := Lib.hid hia.rw
  clear hia
  have HIb := Lib.hid hib
  have HRb := Lib.hid hib.rw
  clear hib
  have HO := Lib.hid ho
  have hb : b.val < 57896044618658097711785492504343953926634992332820282019728792003956564819949 := b.isLt
  obtain ⟨v, hv⟩ : ∃ v, b.val / 452312848583266388373324160190187140051835877600158453279131187530910662656 = v := ⟨_, rfl⟩
  have HV := Lib.hid (show (NB b)[31]? = some (.int .u8 (v : Int)) by rw [← hv]; exact PB_31 b.val b.lt256)
  have HV2 := Lib.hid (show v < 256 by omega)
  have HW := Lib.hid (show (NB b).setIfInBounds 31 (.int .u8 ((v % 128 + 128 : Nat) : Int)) = PB (encXY a b) from PB_set31 b.val (encXY a b) (v % 128 + 128) b.lt256 (by omega) (by rw [encXY_odd a b (of_decide_eq_true ho)]; omega))
  clear ho hb hv
  have HQ1 := Lib.hid (fun w => IsN.rest HIb.out w)
  have HQ2 := Lib.hid (fun w => IsN.odd HIa.out w)
  rw [show decide (a.val % 2 = 1) = true from HO.out] at HQ2
  have hz0 := zPt
  go_enter Tryd.func57, Tryd.ntmps57
  go_upto_region 1 with fail
  generalize hW1 : World.alloc _ _ = W1
  obtain ⟨N, hN⟩ : ∃ n, w.heap.size = n := ⟨_, rfl⟩
  have HX0 := Lib.hid (show CT W1 N 102 A by subst hW1; rw [← hN]; exact (allocs3_at w _ _ _).1)
  have HX1 := Lib.hid (show CT W1 (N + 1) 102 B by subst hW1; rw [← hN]; exact (allocs3_at w _ _ _).2.1)
  have HX2 := Lib.hid (show CT W1 (N + 1 + 1) 68 (PB 0) by subst hW1; rw [← hN]; exact (allocs3_at w _ _ _).2.2)
  have HB := Lib.hid (show Below N w W1 by subst hW1; rw [← hN]; exact allocs3_below w _ _ _)
  have HN := Lib.hid hN
  rw [hN]
  clear hW1 hN
  refine wp_region_seq 2 ?_
  simp only [List.take_succ_cons, List.take_zero, List.drop_succ_cons, List.drop_zero]
  refine upW_val (by rfl) (by rfl) (by rfl) (fun K hK => quiet_load_ct _ _ rfl (N + 1) rfl 102 B 32 HRb.out _ HX1.out Tryd.underlying102 rfl (by kernel_rfl) (hK _ ?_))
  simp only [Act.put, List.setIfInBounds_toArray, List.set]
  refine upW_call (by rfl) (by rfl) (.agg (NB b)) _ rfl (by simp) (fun p => ?_) ?_
  · go_big_quiet_op
    exact ⟨_, fun q => Calls.ext_of (HQ1.out q.x), rfl⟩
  simp only [Act.put, List.setIfInBounds_toArray, List.set]
  refine upW_nil (fun wr1 hbr1 => ?_)
  replace HX0 := Lib.hid (HX0.out.ext hbr1)
  replace HX1 := Lib.hid (HX1.out.ext hbr1)
  replace HX2 := Lib.hid (HX2.out.ext hbr1)
  replace HB := Lib.hid (HB.out.trans (hbr1.mono (show N ≤ _ by have := HB.out.size; have := HN.out; omega)))
  clear hbr1
  refine wpList_new1 rfl 68 rfl (PB 0) zPt rfl _ _ rfl rfl (NB b) 32 (NB_rw b) (PB_rw 0).size (by kernel_rfl) rfl rfl (fun B2 wr2 hB2 hbr2 hCB2 => ?_)
  have HB2 := Lib.hid hCB2
  have hlB2X0 : N < B2 := by rw [← hB2]; exact HX0.out.lt
  have hlB2X1 : (N + 1) < B2 := by rw [← hB2]; exact HX1.out.lt
  have hlB2X2 : (N + 1 + 1) < B2 := by rw [← hB2]; exact HX2.out.lt
  have hNB2 : N ≤ B2 := by rw [← hB2]; have := HB.out.size; have := HN.out; omega
  clear hB2 hCB2
  simp only [Act.put, List.setIfInBounds_toArray, List.set]
  replace HX0 := Lib.hid (HX0.out.ext hbr2)
  replace HX1 := Lib.hid (HX1.out.ext hbr2)
  replace HX2 := Lib.hid (HX2.out.ext hbr2)
  replace HB := Lib.hid (HB.out.trans (hbr2.mono (show N ≤ _ by have := HB.out.size; have := HN.out; omega)))
  clear hbr2
  go_upto_region 2 with fail
  refine wp_region_seq 2 ?_
  simp only [List.take_succ_cons, List.take_zero, List.drop_succ_cons, List.drop_zero]
  refine upW_val (by rfl) (by rfl) (by rfl) (fun K hK => quiet_load_ct _ _ rfl N rfl 102 A 32 HRa.out _ HX0.out Tryd.underlying102 rfl (by kernel_rfl) (hK _ ?_))
  simp only [Act.put, List.setIfInBounds_toArray, List.set]
  refine upW_call (by rfl) (by rfl) (.bool true) _ rfl (by simp) (fun p => ?_) ?_
  · go_big_quiet_op
    exact ⟨_, fun q => Calls.ext_of (HQ2.out q.x), rfl⟩
  simp only [Act.put, List.setIfInBounds_toArray, List.set]
  refine upW_nil (fun wr3 hbr3 => ?_)
  replace HX0 := Lib.hid (HX0.out.ext hbr3)
  replace HX1 := Lib.hid (HX1.out.ext hbr3)
  replace HX2 := Lib.hid (HX2.out.ext hbr3)
  replace HB2 := Lib.hid (HB2.out.ext hbr3)
  replace HB := Lib.hid (HB.out.trans (hbr3.mono (show N ≤ _ by have := HB.out.size; have := HN.out; omega)))
  clear hbr3
  go_upto_region 3 with fail
  refine wp_region_seq 4 ?_
  simp only [List.take_succ_cons, List.take_zero, List.drop_succ_cons, List.drop_zero]
  refine upW_late (by rfl) (.pointer (some ⟨B2, 31, none⟩)) (fun _ => by kernel_rfl) ?_
  simp only [Act.put, List.setIfInBounds_toArray, List.set]
  refine upW_val (by rfl) (by rfl) (by rfl) (fun K hK => quiet_load_byte _ rfl B2 31 rfl 68 (NB b) HB2.out (.int .u8 (v : Int)) HV.out (hK _ ?_))
  simp only [Act.put, List.setIfInBounds_toArray, List.set]
  refine upW_late (by rfl) (.int .u8 ((v % 128 + 128 : Nat) : Int)) (fun w => run_or8 _ _ _ _ _ rfl (v : Int) 128 rfl rfl ((v % 128 + 128 : Nat) : Int) (or128 v HV2.out) w) ?_
  simp only [Act.put, List.setIfInBounds_toArray, List.set]
  refine upW_late (by rfl) (.pointer (some ⟨B2, 31, none⟩)) (fun _ => by kernel_rfl) ?_
  simp only [Act.put, List.setIfInBounds_toArray, List.set]
  refine upW_nil (fun wr4 hbr4 => ?_)
  replace HX0 := Lib.hid (HX0.out.ext hbr4)
  replace HX1 := Lib.hid (HX1.out.ext hbr4)
  replace HX2 := Lib.hid (HX2.out.ext hbr4)
  replace HB2 := Lib.hid (HB2.out.ext hbr4)
  replace HB := Lib.hid (HB.out.trans (hbr4.mono (show N ≤ _ by have := HB.out.size; have := HN.out; omega)))
  clear hbr4
  refine wpList_store_byte rfl _ _ rfl B2 31 rfl ((v % 128 + 128 : Nat) : Int) rfl 68 (NB b) (PB (encXY a b)) HB2.out (by rw [(NB_rw b).size]; decide) HW.out rfl (fun wr5 hSwr5 hOwr5 hWwr5 => ?_)
  replace HB2 := Lib.hid hSwr5
  replace HB := Lib.hid (hWwr5 _ _ HB.out (by omega))
  replace HX0 := Lib.hid (HX0.out.other (hOwr5 _ (by omega)))
  replace HX1 := Lib.hid (HX1.out.other (hOwr5 _ (by omega)))
  replace HX2 := Lib.hid (HX2.out.other (hOwr5 _ (by omega)))
  clear hSwr5 hOwr5 hWwr5
  go_upto_region 4 with fail
  refine wp_region_seq 1 ?_
  simp only [List.take_succ_cons, List.take_zero, List.drop_succ_cons, List.drop_zero]
  refine upW_val (by rfl) (by rfl) (by rfl) (fun K hK => quiet_load_ct _ _ rfl B2 rfl 68 (PB (encXY a b)) 32 (PB_rw (encXY a b)) _ HB2.out Tryd.underlying68 rfl (by kernel_rfl) (hK _ ?_))
  simp only [Act.put, List.setIfInBounds_toArray, List.set]
  refine upW_nil (fun wr6 hbr6 => ?_)
  replace HX0 := Lib.hid (HX0.out.ext hbr6)
  replace HX1 := Lib.hid (HX1.out.ext hbr6)
  replace HX2 := Lib.hid (HX2.out.ext hbr6)
  replace HB2 := Lib.hid (HB2.out.ext hbr6)
  replace HB := Lib.hid (HB.out.trans (hbr6.mono (show N ≤ _ by have := HB.out.size; have := HN.out; omega)))
  clear hbr6
  refine wpList_store_ct rfl 68 _ _ rfl (N + 1 + 1) (PB (encXY a b)) rfl rfl 68 (PB 0) 32 HX2.out (by kernel_rfl) (PB_rw 0) (PB_rw (encXY a b)) rfl (fun wr7 hSwr7 hOwr7 hWwr7 => ?_)
  replace HX2 := Lib.hid hSwr7
  replace HB := Lib.hid (hWwr7 _ _ HB.out (by omega))
  replace HX0 := Lib.hid (HX0.out.other (hOwr7 _ (by omega)))
  replace HX1 := Lib.hid (HX1.out.other (hOwr7 _ (by omega)))
  replace HB2 := Lib.hid (HB2.out.other (hOwr7 _ (by omega)))
  clear hSwr7 hOwr7 hWwr7
  go_wp2
  refine bodyPost_ret (results_ct (by rfl) _ _ (N + 1 + 1) 68 (PB (encXY a b)) 32 _ (by rfl) HX2.out (PB_rw (encXY a b)) Tryd.underlying68 rfl (by kernel_rfl)) rfl ⟨by first | rfl | (rfl), by rw [HN.out]; exact HB.out⟩
theorem encode_any {A : Array Value} {a : Fp} (hia : IsN A a) {B : Array Value} {b : Fp} (hib : IsN B b) (w : World) : Calls Tryd.prog 57 #[.agg A, .agg B] w fun e w' => e = .returned (.agg (PB (encXY a b))) ∧ Below w.heap.size w w' := by
  cases h : decide (a.val % 2 = 1) with
  | false => exact encode_even hia hib h w
  | true => exact encode_odd hia hib h w
set_option maxRecDepth 100000 in
set_option maxHeartbeats 1000000 in
theorem split_any (n m : Nat) (o : Bool) (hn : n < 115792089237316195423570985008687907853269984665640564039457584007913129639936) (hm : n % 57896044618658097711785492504343953926634992332820282019728792003956564819968 = m) (ho : decide (57896044618658097711785492504343953926634992332820282019728792003956564819968 ≤ n) = o) (w : World) :
    Calls Tryd.prog 69 #[.agg (PB n)] w fun e w' => e = .returned (.tuple #[.agg (PB m), .bool o]) ∧ Below w.heap.size w w' := by
  obtain ⟨v, hv⟩ : ∃ v, n / 452312848583266388373324160190187140051835877600158453279131187530910662656 = v := ⟨_, rfl⟩
  have HV := Lib.hid (show (PB n)[31]? = some (.int .u8 (v : Int)) by rw [← hv]; exact PB_31 n hn)
  have HV2 := Lib.hid (show v < 256 by omega)
  have HW := Lib.hid (show (PB n).setIfInBounds 31 (.int .u8 ((v % 128 : Nat) : Int)) = PB m from PB_set31 n m (v % 128) hn (by omega) (by omega))
  have HO := Lib.hid (show (!(((v / 128 * 128 : Nat) : Int) == 0)) = o by
    rw [← ho, Bool.eq_iff_iff]
    simp
    omega)
  clear hn hm ho hv
  have hz0 := zNu
  go_enter Tryd.func69, Tryd.ntmps69
  go_upto_region 1 with fail
  generalize hW1 : World.alloc _ _ = W1
  obtain ⟨N, hN⟩ : ∃ n, w.heap.size = n := ⟨_, rfl⟩
  have HX0 := Lib.hid (show CT W1 N 68 (PB n) by subst hW1; rw [← hN]; exact (allocs2_at w _ _).1)
  have HX1 := Lib.hid (show CT W1 (N + 1) 102 (NB 0) by subst hW1; rw [← hN]; exact (allocs2_at w _ _).2)
  have HB := Lib.hid (show Below N w W1 by subst hW1; rw [← hN]; exact allocs2_below w _ _)
  have HN := Lib.hid hN
  rw [hN]
  clear hW1 hN
  refine wp_region_seq 4 ?_
  simp only [List.take_succ_cons, List.take_zero, List.drop_succ_cons, List.drop_zero]
  refine upW_late (by rfl) (.pointer (some ⟨N, 31, none⟩)) (fun _ => by kernel_rfl) ?_
  simp only [Act.put, List.setIfInBounds_toArray, List.set]
  refine upW_val (by rfl) (by rfl) (by rfl) (fun K hK => quiet_load_byte _ rfl N 31 rfl 68 (PB n) HX0.out (.int .u8 (v : Int)) HV.out (hK _ ?_))
  simp only [Act.put, List.setIfInBounds_toArray, List.set]
  refine upW_late (by rfl) (.int .u8 ((v / 128 * 128 : Nat) : Int)) (fun w => run_and8 _ _ _ _ _ rfl (v : Int) 128 rfl rfl ((v / 128 * 128 : Nat) : Int) (and128 v HV2.out) w) ?_
  simp only [Act.put, List.setIfInBounds_toArray, List.set]
  refine upW_late (by rfl) (.bool o) (fun w => run_neq8 _ _ _ _ rfl ((v / 128 * 128 : Nat) : Int) 0 rfl rfl o HO.out w) ?_
  simp only [Act.put, List.setIfInBounds_toArray, List.set]
  refine upW_nil (fun wr1 hbr1 => ?_)
  replace HX0 := Lib.hid (HX0.out.ext hbr1)
  replace HX1 := Lib.hid (HX1.out.ext hbr1)
  replace HB := Lib.hid (HB.out.trans (hbr1.mono (show N ≤ _ by have := HB.out.size; have := HN.out; omega)))
  clear hbr1
  go_upto_region 2 with fail
  refine wp_region_seq 4 ?_
  simp only [List.take_succ_cons, List.take_zero, List.drop_succ_cons, List.drop_zero]
  refine upW_late (by rfl) (.pointer (some ⟨N, 31, none⟩)) (fun _ => by kernel_rfl) ?_
  simp only [Act.put, List.setIfInBounds_toArray, List.set]
  refine upW_val (by rfl) (by rfl) (by rfl) (fun K hK => quiet_load_byte _ rfl N 31 rfl 68 (PB n) HX0.out (.int .u8 (v : Int)) HV.out (hK _ ?_))
  simp only [Act.put, List.setIfInBounds_toArray, List.set]
  refine upW_late (by rfl) (.int .u8 ((v % 128 : Nat) : Int)) (fun w => run_andNot8 _ _ _ _ _ rfl (v : Int) 128 rfl rfl ((v % 128 : Nat) : Int) (andNot128 v HV2.out) w) ?_
  simp only [Act.put, List.setIfInBounds_toArray, List.set]
  refine upW_late (by rfl) (.pointer (some ⟨N, 31, none⟩)) (fun _ => by kernel_rfl) ?_
  simp only [Act.put, List.setIfInBounds_toArray, List.set]
  refine upW_nil (fun wr2 hbr2 => ?_)
  replace HX0 := Lib.hid (HX0.out.ext hbr2)
  replace HX1 := Lib.hid (HX1.out.ext hbr2)
  replace HB := Lib.hid (HB.out.trans (hbr2.mono (show N ≤ _ by have := HB.out.size; have := HN.out; omega)))
  clear hbr2
  refine wpList_store_byte rfl _ _ rfl N 31 rfl ((v % 128 : Nat) : Int) rfl 68 (PB n) (PB m) HX0.out (by rw [(PB_rw n).size]; decide) HW.out rfl (fun wr3 hSwr3 hOwr3 hWwr3 => ?_)
  replace HX0 := Lib.hid hSwr3
  replace HB := Lib.hid (hWwr3 _ _ HB.out (by omega))
  replace HX1 := Lib.hid (HX1.out.other (hOwr3 _ (by omega)))
  clear hSwr3 hOwr3 hWwr3
  go_upto_region 3 with fail
  refine wp_region_seq 2 ?_
  simp only [List.take_succ_cons, List.take_zero, List.drop_succ_cons, List.drop_zero]
  refine upW_val (by rfl) (by rfl) (by rfl) (fun K hK => quiet_load_ct _ _ rfl N rfl 68 (PB m) 32 (PB_rw m) _ HX0.out Tryd.underlying68 rfl (by kernel_rfl) (hK _ ?_))
  simp only [Act.put, List.setIfInBounds_toArray, List.set]
  refine upW_val (by rfl) (by rfl) (by rfl) ?_
  intro K hK
  go_big_quiet_op
  refine hK _ ?_
  refine upW_nil (fun wr4 hbr4 => ?_)
  replace HX0 := Lib.hid (HX0.out.ext hbr4)
  replace HX1 := Lib.hid (HX1.out.ext hbr4)
  replace HB := Lib.hid (HB.out.trans (hbr4.mono (show N ≤ _ by have := HB.out.size; have := HN.out; omega)))
  clear hbr4
  refine wpList_store_ct rfl 102 _ _ rfl (N + 1) (PB m) rfl rfl 102 (NB 0) 32 HX1.out (by kernel_rfl) (NB_rw 0) (PB_rw m) rfl (fun wr5 hSwr5 hOwr5 hWwr5 => ?_)
  replace HX1 := Lib.hid hSwr5
  replace HB := Lib.hid (hWwr5 _ _ HB.out (by omega))
  replace HX0 := Lib.hid (HX0.out.other (hOwr5 _ (by omega)))
  clear hSwr5 hOwr5 hWwr5
  go_wp2
  refine bodyPost_ret (results_ct_slot (p := 2) (q := 3) (by rfl) _ _ (N + 1) 102 (PB m) 32 _ (.bool o) (by rfl) HX1.out (PB_rw m) Tryd.underlying102 rfl (by kernel_rfl) rfl) rfl ⟨by first | rfl | (rfl), by rw [HN.out]; exact HB.out⟩
set_option maxRecDepth 100000 in
set_option maxHeartbeats 1000000 in
theorem zero_any  (w : World) :
    Calls Tryd.prog 79 #[] w fun e w' => e = .returned (.agg (FR 0 1 1 0)) ∧ Below w.heap.size w w' := by
  have hz0 := zFr
  go_enter Tryd.func79, Tryd.ntmps79
  go_upto_region 1 with fail
  generalize hW1 : World.alloc _ _ = W1
  obtain ⟨N, hN⟩ : ∃ n, w.heap.size = n := ⟨_, rfl⟩
  have HX0 := Lib.hid (show CT W1 N 108 (FR 0 0 0 0) by subst hW1; rw [← hN]; exact (allocs1_at w _))
  have HB := Lib.hid (show Below N w W1 by subst hW1; rw [← hN]; exact allocs1_below w _)
  have HN := Lib.hid hN
  rw [hN]
  clear hW1 hN
  refine wp_region_seq 1 ?_
  simp only [List.take_succ_cons, List.take_zero, List.drop_succ_cons, List.drop_zero]
  refine upW_call (by rfl) (by rfl) (.agg (NB 1)) _ rfl (by simp) (fun p => ?_) ?_
  · go_big_quiet_op
    exact ⟨_, fun q => Calls.ext_of (Of_one q.x), rfl⟩
  simp only [Act.put, List.setIfInBounds_toArray, List.set]
  refine upW_nil (fun wr1 hbr1 => ?_)
  replace HX0 := Lib.hid (HX0.out.ext hbr1)
  replace HB := Lib.hid (HB.out.trans (hbr1.mono (show N ≤ _ by have := HB.out.size; have := HN.out; omega)))
  clear hbr1
  refine wpList_new1 rfl 102 rfl (NB 0) zNu rfl _ _ rfl rfl (NB 1) 32 (NB_rw 1) (NB_rw 0).size (by kernel_rfl) rfl rfl (fun B2 wr2 hB2 hbr2 hCB2 => ?_)
  have HB2 := Lib.hid hCB2
  have hlB2X0 : N < B2 := by rw [← hB2]; exact HX0.out.lt
  have hNB2 : N ≤ B2 := by rw [← hB2]; have := HB.out.size; have := HN.out; omega
  clear hB2 hCB2
  simp only [Act.put, List.setIfInBounds_toArray, List.set]
  replace HX0 := Lib.hid (HX0.out.ext hbr2)
  replace HB := Lib.hid (HB.out.trans (hbr2.mono (show N ≤ _ by have := HB.out.size; have := HN.out; omega)))
  clear hbr2
  go_upto_region 2 with fail
  refine wp_region_seq 3 ?_
  simp only [List.take_succ_cons, List.take_zero, List.drop_succ_cons, List.drop_zero]
  refine upW_val (by rfl) (by rfl) (by rfl) (fun K hK => quiet_load_ct _ _ rfl B2 rfl 102 (NB 1) 32 (NB_rw 1) _ HB2.out Tryd.underlying102 rfl (by kernel_rfl) (hK _ ?_))
  simp only [Act.put, List.setIfInBounds_toArray, List.set]
  refine upW_val (by rfl) (by rfl) (by rfl) (fun K hK => quiet_load_ct _ _ rfl B2 rfl 102 (NB 1) 32 (NB_rw 1) _ HB2.out Tryd.underlying102 rfl (by kernel_rfl) (hK _ ?_))
  simp only [Act.put, List.setIfInBounds_toArray, List.set]
  refine upW_late (by rfl) (.agg (FR 0 1 1 0)) (fun w => run_built _ _ _ _ rfl _ (by kernel_rfl) w) ?_
  simp only [Act.put, List.setIfInBounds_toArray, List.set]
  refine upW_nil (fun wr3 hbr3 => ?_)
  replace HX0 := Lib.hid (HX0.out.ext hbr3)
  replace HB2 := Lib.hid (HB2.out.ext hbr3)
  replace HB := Lib.hid (HB.out.trans (hbr3.mono (show N ≤ _ by have := HB.out.size; have := HN.out; omega)))
  clear hbr3
  refine wpList_store_ct rfl 108 _ _ rfl N (FR 0 1 1 0) rfl rfl 108 (FR 0 0 0 0) 128 HX0.out (by kernel_rfl) (FR_rw 0 0 0 0) (FR_rw 0 1 1 0) rfl (fun wr4 hSwr4 hOwr4 hWwr4 => ?_)
  replace HX0 := Lib.hid hSwr4
  replace HB := Lib.hid (hWwr4 _ _ HB.out (by omega))
  replace HB2 := Lib.hid (HB2.out.other (hOwr4 _ (by omega)))
  clear hSwr4 hOwr4 hWwr4
  go_wp2
  refine bodyPost_ret (results_ct (by rfl) _ _ N 108 (FR 0 1 1 0) 128 _ (by rfl) HX0.out (FR_rw 0 1 1 0) Tryd.underlying108 rfl (by kernel_rfl)) rfl ⟨by first | rfl | (rfl), by rw [HN.out]; exact HB.out⟩
set_option maxRecDepth 100000 in
set_option maxHeartbeats 1000000 in
theorem join_any {A : Array Value} {a : Fp} (hia : IsN A a) {B : Array Value} {b : Fp} (hib : IsN B b) {C : Array Value} {c : Fp} (hic : IsN C c) {D : Array Value} {d : Fp} (hid : IsN D d) (w : World) :
    Calls Tryd.prog 84 #[.agg A, .agg B, .agg C, .agg D] w fun e w' => e = .returned (.agg (FR (a * d) (b * c) (c * d) (a * b))) ∧ Below w.heap.size w w' := by
  have HIa := Lib.hid hia
  have HRa := Lib.hid hia.rw
  clear hia
  have HIb := Lib.hid hib
  have HRb := Lib.hid hib.rw
  clear hib
  have HIc := Lib.hid hic
  have HRc := Lib.hid hic.rw
  clear hic
  have HId := Lib.hid hid
  have HRd := Lib.hid hid.rw
  clear hid
  obtain ⟨c1, hc1⟩ : ∃ zq : Fp, zq = a * d := ⟨_, rfl⟩
  have HE1 := Lib.hid hc1
  clear hc1
  have HQ2 := Lib.hid (fun w => IsN.mul HIa.out HId.out w)
  rw [← HE1.out] at HQ2
  obtain ⟨c3, hc3⟩ : ∃ zq : Fp, zq = b * c := ⟨_, rfl⟩
  have HE3 := Lib.hid hc3
  clear hc3
  have HQ4 := Lib.hid (fun w => IsN.mul HIb.out HIc.out w)
  rw [← HE3.out] at HQ4
  obtain ⟨c5, hc5⟩ : ∃ zq : Fp, zq = c * d := ⟨_, rfl⟩
  have HE5 := Lib.hid hc5
  clear hc5
  have HQ6 := Lib.hid (fun w => IsN.mul HIc.out HId.out w)
  rw [← HE5.out] at HQ6
  obtain ⟨c7, hc7⟩ : ∃ zq : Fp, zq = a * b := ⟨_, rfl⟩
  have HE7 := Lib.hid hc7
  clear hc7
  have HQ8 := Lib.hid (fun w => IsN.mul HIa.out HIb.out w)
  rw [← HE7.out] at HQ8
  have hz0 := zFr
  go_enter Tryd.func84, Tryd.ntmps84
  go_upto_region 1 with fail
  generalize hW1 : World.alloc _ _ = W1
  obtain ⟨N, hN⟩ : ∃ n, w.heap.size = n := ⟨_, rfl⟩
  have HX0 := Lib.hid (show CT W1 N 102 A by subst hW1; rw [← hN]; exact (allocs5_at w _ _ _ _ _).1)
  have HX1 := Lib.hid (show CT W1 (N + 1) 102 B by subst hW1; rw [← hN]; exact (allocs5_at w _ _ _ _ _).2.1)
  have HX2 := Lib.hid (show CT W1 (N + 1 + 1) 102 C by subst hW1; rw [← hN]; exact (allocs5_at w _ _ _ _ _).2.2.1)
  have HX3 := Lib.hid (show CT W1 (N + 1 + 1 + 1) 102 D by subst hW1; rw [← hN]; exact (allocs5_at w _ _ _ _ _).2.2.2.1)
  have HX4 := Lib.hid (show CT W1 (N + 1 + 1 + 1 + 1) 108 (FR 0 0 0 0) by subst hW1; rw [← hN]; exact (allocs5_at w _ _ _ _ _).2.2.2.2)
  have HB := Lib.hid (show Below N w W1 by subst hW1; rw [← hN]; exact allocs5_below w _ _ _ _ _)
  have HN := Lib.hid hN
  rw [hN]
  clear hW1 hN
  refine wp_region_upT 13 _ (by kernel_rfl) (by kernel_rfl) rfl (by kernel_rfl) (fun _ _ dst _ _ h => by cases dst <;> exact h) ?_
  simp only [List.take_succ_cons, List.take_zero, List.drop_succ_cons, List.drop_zero]
  refine upW_val (by rfl) (by rfl) (by rfl) (fun K hK => quiet_load_ct _ _ rfl N rfl 102 A 32 HRa.out _ HX0.out Tryd.underlying102 rfl (by kernel_rfl) (hK _ ?_))
  simp only [Act.put, List.setIfInBounds_toArray, List.set]
  refine upW_val (by rfl) (by rfl) (by rfl) (fun K hK => quiet_load_ct _ _ rfl (N + 1 + 1 + 1) rfl 102 D 32 HRd.out _ HX3.out Tryd.underlying102 rfl (by kernel_rfl) (hK _ ?_))
  simp only [Act.put, List.setIfInBounds_toArray, List.set]
  refine upW_call (by rfl) (by rfl) (.agg (NB c1)) _ rfl (by simp) (fun p => ?_) ?_
  · go_big_quiet_op
    exact ⟨_, fun q => Calls.ext_of (HQ2.out q.x), rfl⟩
  simp only [Act.put, List.setIfInBounds_toArray, List.set]
  refine upW_val (by rfl) (by rfl) (by rfl) (fun K hK => quiet_load_ct _ _ rfl (N + 1) rfl 102 B 32 HRb.out _ HX1.out Tryd.underlying102 rfl (by kernel_rfl) (hK _ ?_))
  simp only [Act.put, List.setIfInBounds_toArray, List.set]
  refine upW_val (by rfl) (by rfl) (by rfl) (fun K hK => quiet_load_ct _ _ rfl (N + 1 + 1) rfl 102 C 32 HRc.out _ HX2.out Tryd.underlying102 rfl (by kernel_rfl) (hK _ ?_))
  simp only [Act.put, List.setIfInBounds_toArray, List.set]
  refine upW_call (by rfl) (by rfl) (.agg (NB c3)) _ rfl (by simp) (fun p => ?_) ?_
  · go_big_quiet_op
    exact ⟨_, fun q => Calls.ext_of (HQ4.out q.x), rfl⟩
  simp only [Act.put, List.setIfInBounds_toArray, List.set]
  refine upW_val (by rfl) (by rfl) (by rfl) (fun K hK => quiet_load_ct _ _ rfl (N + 1 + 1) rfl 102 C 32 HRc.out _ HX2.out Tryd.underlying102 rfl (by kernel_rfl) (hK _ ?_))
  simp only [Act.put, List.setIfInBounds_toArray, List.set]
  refine upW_val (by rfl) (by rfl) (by rfl) (fun K hK => quiet_load_ct _ _ rfl (N + 1 + 1 + 1) rfl 102 D 32 HRd.out _ HX3.out Tryd.underlying102 rfl (by kernel_rfl) (hK _ ?_))
  simp only [Act.put, List.setIfInBounds_toArray, List.set]
  refine upW_call (by rfl) (by rfl) (.agg (NB c5)) _ rfl (by simp) (fun p => ?_) ?_
  · go_big_quiet_op
    exact ⟨_, fun q => Calls.ext_of (HQ6.out q.x), rfl⟩
  simp only [Act.put, List.setIfInBounds_toArray, List.set]
  refine upW_val (by rfl) (by rfl) (by rfl) (fun K hK => quiet_load_ct _ _ rfl N rfl 102 A 32 HRa.out _ HX0.out Tryd.underlying102 rfl (by kernel_rfl) (hK _ ?_))
  simp only [Act.put, List.setIfInBounds_toArray, List.set]
  refine upW_val (by rfl) (by rfl) (by rfl) (fun K hK => quiet_load_ct _ _ rfl (N + 1) rfl 102 B 32 HRb.out _ HX1.out Tryd.underlying102 rfl (by kernel_rfl) (hK _ ?_))
  simp only [Act.put, List.setIfInBounds_toArray, List.set]
  refine upW_call (by rfl) (by rfl) (.agg (NB c7)) _ rfl (by simp) (fun p => ?_) ?_
  · go_big_quiet_op
    exact ⟨_, fun q => Calls.ext_of (HQ8.out q.x), rfl⟩
  simp only [Act.put, List.setIfInBounds_toArray, List.set]
  refine upW_late (by rfl) (.agg (FR c1 c3 c5 c7)) (fun w => run_made_F _ _ _ _ _ _ rfl c1 c3 c5 c7 rfl rfl rfl rfl w) ?_
  simp only [Act.put, List.setIfInBounds_toArray, List.set]
  refine upW_nil (fun wr1 hbr1 => ?_)
  replace HX0 := Lib.hid (HX0.out.ext hbr1)
  replace HX1 := Lib.hid (HX1.out.ext hbr1)
  replace HX2 := Lib.hid (HX2.out.ext hbr1)
  replace HX3 := Lib.hid (HX3.out.ext hbr1)
  replace HX4 := Lib.hid (HX4.out.ext hbr1)
  replace HB := Lib.hid (HB.out.trans (hbr1.mono (show N ≤ _ by have := HB.out.size; have := HN.out; omega)))
  clear hbr1
  refine wpList_store_ct rfl 108 _ _ rfl (N + 1 + 1 + 1 + 1) (FR c1 c3 c5 c7) rfl rfl 108 (FR 0 0 0 0) 128 HX4.out (by kernel_rfl) (FR_rw 0 0 0 0) (FR_rw c1 c3 c5 c7) rfl (fun wr2 hSwr2 hOwr2 hWwr2 => ?_)
  replace HX4 := Lib.hid hSwr2
  replace HB := Lib.hid (hWwr2 _ _ HB.out (by omega))
  replace HX0 := Lib.hid (HX0.out.other (hOwr2 _ (by omega)))
  replace HX1 := Lib.hid (HX1.out.other (hOwr2 _ (by omega)))
  replace HX2 := Lib.hid (HX2.out.other (hOwr2 _ (by omega)))
  replace HX3 := Lib.hid (HX3.out.other (hOwr2 _ (by omega)))
  clear hSwr2 hOwr2 hWwr2
  go_wp2
  refine bodyPost_ret (results_ct (by rfl) _ _ (N + 1 + 1 + 1 + 1) 108 (FR c1 c3 c5 c7) 128 _ (by rfl) HX4.out (FR_rw c1 c3 c5 c7) Tryd.underlying108 rfl (by kernel_rfl)) rfl ⟨by first | rfl | (simp only [HE1.out, HE3.out, HE5.out, HE7.out]), by rw [HN.out]; exact HB.out⟩
set_option maxRecDepth 100000 in
set_option maxHeartbeats 1000000 in
theorem add_any (a b c d a' b' c' d' : Fp) (w : World) :
    Calls Tryd.prog 62 #[.agg (FR a b c d), .agg (FR a' b' c' d')] w fun e w' => e = .returned (.agg (FR ((((b + a) * (b' + a')) - ((b - a) * (b' - a'))) * ((c * c' + c * c') - (cD * (d * d') + cD * (d * d')))) ((((b + a) * (b' + a')) + ((b - a) * (b' - a'))) * ((c * c' + c * c') + (cD * (d * d') + cD * (d * d')))) (((c * c' + c * c') + (cD * (d * d') + cD * (d * d'))) * ((c * c' + c * c') - (cD * (d * d') + cD * (d * d')))) ((((b + a) * (b' + a')) - ((b - a) * (b' - a'))) * (((b + a) * (b' + a')) + ((b - a) * (b' - a')))))) ∧ Below w.heap.size w w' := by
  obtain ⟨c1, hc1⟩ : ∃ zq : Fp, zq = b - a := ⟨_, rfl⟩
  have HE1 := Lib.hid hc1
  clear hc1
  have HQ2 := Lib.hid (fun w => IsN.sub (isN_NB b) (isN_NB a) w)
  rw [← HE1.out] at HQ2
  obtain ⟨c3, hc3⟩ : ∃ zq : Fp, zq = b' - a' := ⟨_, rfl⟩
  have HE3 := Lib.hid hc3
  clear hc3
  have HQ4 := Lib.hid (fun w => IsN.sub (isN_NB b') (isN_NB a') w)
  rw [← HE3.out] at HQ4
  obtain ⟨c5, hc5⟩ : ∃ zq : Fp, zq = c1 * c3 := ⟨_, rfl⟩
  have HE5 := Lib.hid hc5
  clear hc5
  have HQ6 := Lib.hid (fun w => IsN.mul (isN_NB c1) (isN_NB c3) w)
  rw [← HE5.out] at HQ6
  obtain ⟨c7, hc7⟩ : ∃ zq : Fp, zq = b + a := ⟨_, rfl⟩
  have HE7 := Lib.hid hc7
  clear hc7
  have HQ8 := Lib.hid (fun w => IsN.add (isN_NB b) (isN_NB a) w)
  rw [← HE7.out] at HQ8
  obtain ⟨c9, hc9⟩ : ∃ zq : Fp, zq = b' + a' := ⟨_, rfl⟩
  have HE9 := Lib.hid hc9
  clear hc9
  have HQ10 := Lib.hid (fun w => IsN.add (isN_NB b') (isN_NB a') w)
  rw [← HE9.out] at HQ10
  obtain ⟨c11, hc11⟩ : ∃ zq : Fp, zq = c7 * c9 := ⟨_, rfl⟩
  have HE11 := Lib.hid hc11
  clear hc11
  have HQ12 := Lib.hid (fun w => IsN.mul (isN_NB c7) (isN_NB c9) w)
  rw [← HE11.out] at HQ12
  obtain ⟨c13, hc13⟩ : ∃ zq : Fp, zq = c * c' := ⟨_, rfl⟩
  have HE13 := Lib.hid hc13
  clear hc13
  have HQ14 := Lib.hid (fun w => IsN.mul (isN_NB c) (isN_NB c') w)
  rw [← HE13.out] at HQ14
  obtain ⟨c15, hc15⟩ : ∃ zq : Fp, zq = d * d' := ⟨_, rfl⟩
  have HE15 := Lib.hid hc15
  clear hc15
  have HQ16 := Lib.hid (fun w => IsN.mul (isN_NB d) (isN_NB d') w)
  rw [← HE15.out] at HQ16
  obtain ⟨c17, hc17⟩ : ∃ zq : Fp, zq = cD * c15 := ⟨_, rfl⟩
  have HE17 := Lib.hid hc17
  clear hc17
  have HQ18 := Lib.hid (fun w => IsN.mul (isN_NB cD) (isN_NB c15) w)
  rw [← HE17.out] at HQ18
  obtain ⟨c19, hc19⟩ : ∃ zq : Fp, zq = c13 + c13 := ⟨_, rfl⟩
  have HE19 := Lib.hid hc19
  clear hc19
  have HQ20 := Lib.hid (fun w => IsN.add (isN_NB c13) (isN_NB c13) w)
  rw [← HE19.out] at HQ20
  obtain ⟨c21, hc21⟩ : ∃ zq : Fp, zq = c17 + c17 := ⟨_, rfl⟩
  have HE21 := Lib.hid hc21
  clear hc21
  have HQ22 := Lib.hid (fun w => IsN.add (isN_NB c17) (isN_NB c17) w)
  rw [← HE21.out] at HQ22
  obtain ⟨c23, hc23⟩ : ∃ zq : Fp, zq = c11 - c5 := ⟨_, rfl⟩
  have HE23 := Lib.hid hc23
  clear hc23
  have HQ24 := Lib.hid (fun w => IsN.sub (isN_NB c11) (isN_NB c5) w)
  rw [← HE23.out] at HQ24
  obtain ⟨c25, hc25⟩ : ∃ zq : Fp, zq = c11 + c5 := ⟨_, rfl⟩
  have HE25 := Lib.hid hc25
  clear hc25
  have HQ26 := Lib.hid (fun w => IsN.add (isN_NB c11) (isN_NB c5) w)
  rw [← HE25.out] at HQ26
  obtain ⟨c27, hc27⟩ : ∃ zq : Fp, zq = c19 + c21 := ⟨_, rfl⟩
  have HE27 := Lib.hid hc27
  clear hc27
  have HQ28 := Lib.hid (fun w => IsN.add (isN_NB c19) (isN_NB c21) w)
  rw [← HE27.out] at HQ28
  obtain ⟨c29, hc29⟩ : ∃ zq : Fp, zq = c19 - c21 := ⟨_, rfl⟩
  have HE29 := Lib.hid hc29
  clear hc29
  have HQ30 := Lib.hid (fun w => IsN.sub (isN_NB c19) (isN_NB c21) w)
  rw [← HE29.out] at HQ30
  obtain ⟨c31, hc31⟩ : ∃ zq : Fp, zq = c23 * c29 := ⟨_, rfl⟩
  have HE31 := Lib.hid hc31
  clear hc31
  obtain ⟨c32, hc32⟩ : ∃ zq : Fp, zq = c25 * c27 := ⟨_, rfl⟩
  have HE32 := Lib.hid hc32
  clear hc32
  obtain ⟨c33, hc33⟩ : ∃ zq : Fp, zq = c27 * c29 := ⟨_, rfl⟩
  have HE33 := Lib.hid hc33
  clear hc33
  obtain ⟨c34, hc34⟩ : ∃ zq : Fp, zq = c23 * c25 := ⟨_, rfl⟩
  have HE34 := Lib.hid hc34
  clear hc34
  have HQ35 := Lib.hid (fun w => join_any (isN_NB c23) (isN_NB c25) (isN_NB c27) (isN_NB c29) w)
  rw [← HE31.out, ← HE32.out, ← HE33.out, ← HE34.out] at HQ35
  have hz0 := zFr
  go_enter Tryd.func62, Tryd.ntmps62
  go_upto_region 1 with fail
  generalize hW1 : World.alloc _ _ = W1
  obtain ⟨N, hN⟩ : ∃ n, w.heap.size = n := ⟨_, rfl⟩
  have HX0 := Lib.hid (show CT W1 N 108 (FR a b c d) by subst hW1; rw [← hN]; exact (allocs3_at w _ _ _).1)
  have HX1 := Lib.hid (show CT W1 (N + 1) 108 (FR a' b' c' d') by subst hW1; rw [← hN]; exact (allocs3_at w _ _ _).2.1)
  have HX2 := Lib.hid (show CT W1 (N + 1 + 1) 108 (FR 0 0 0 0) by subst hW1; rw [← hN]; exact (allocs3_at w _ _ _).2.2)
  have HB := Lib.hid (show Below N w W1 by subst hW1; rw [← hN]; exact allocs3_below w _ _ _)
  have HN := Lib.hid hN
  rw [hN]
  clear hW1 hN
  refine wp_region_whole [0, 1, 2, 3, 4, 5, 6, 7, 8, 9, 10] [⟨11, _, 102, (NB 0), 5, 12, _, 102, 19, (NB c5)⟩] [12, 11] (by kernel_rfl) (by kernel_rfl) (List.forall_mem_cons.2 ⟨⟨⟨rfl, rfl, rfl, fun a w => alloc_run _ _ zNu a _ rfl w⟩, rfl, rfl, rfl, rfl, (NB_rw c5).info (by kernel_rfl), (NB_rw 0).same (NB_rw c5), (NB_rw c5).one⟩, (List.forall_mem_nil _)⟩) rfl ?_
  simp only [List.foldl, List.eraseIdx_cons_succ, List.eraseIdx_cons_zero]
  refine upW_late (by rfl) (.pointer (some ⟨N, 32, none⟩)) (fun _ => by kernel_rfl) ?_
  simp only [Act.put, List.setIfInBounds_toArray, List.set]
  refine upW_val (by rfl) (by rfl) (by rfl) (fun K hK => quiet_load_part _ _ rfl N 32 rfl 108 (FR a b c d) (NB b) 32 (NB_rw b) _ HX0.out (FR_1 a b c d) Tryd.underlying102 rfl (by kernel_rfl) (hK _ ?_))
  simp only [Act.put, List.setIfInBounds_toArray, List.set]
  refine upW_late (by rfl) (.pointer (some ⟨N, 0, none⟩)) (fun _ => by kernel_rfl) ?_
  simp only [Act.put, List.setIfInBounds_toArray, List.set]
  refine upW_val (by rfl) (by rfl) (by rfl) (fun K hK => quiet_load_part _ _ rfl N 0 rfl 108 (FR a b c d) (NB a) 32 (NB_rw a) _ HX0.out (FR_0 a b c d) Tryd.underlying102 rfl (by kernel_rfl) (hK _ ?_))
  simp only [Act.put, List.setIfInBounds_toArray, List.set]
  refine upW_call (by rfl) (by rfl) (.agg (NB c1)) _ rfl (by simp) (fun p => ?_) ?_
  · go_big_quiet_op
    exact ⟨_, fun q => Calls.ext_of (HQ2.out q.x), rfl⟩
  simp only [Act.put, List.setIfInBounds_toArray, List.set]
  refine upW_late (by rfl) (.pointer (some ⟨(N + 1), 32, none⟩)) (fun _ => by kernel_rfl) ?_
  simp only [Act.put, List.setIfInBounds_toArray, List.set]
  refine upW_val (by rfl) (by rfl) (by rfl) (fun K hK => quiet_load_part _ _ rfl (N + 1) 32 rfl 108 (FR a' b' c' d') (NB b') 32 (NB_rw b') _ HX1.out (FR_1 a' b' c' d') Tryd.underlying102 rfl (by kernel_rfl) (hK _ ?_))
  simp only [Act.put, List.setIfInBounds_toArray, List.set]
  refine upW_late (by rfl) (.pointer (some ⟨(N + 1), 0, none⟩)) (fun _ => by kernel_rfl) ?_
  simp only [Act.put, List.setIfInBounds_toArray, List.set]
  refine upW_val (by rfl) (by rfl) (by rfl) (fun K hK => quiet_load_part _ _ rfl (N + 1) 0 rfl 108 (FR a' b' c' d') (NB a') 32 (NB_rw a') _ HX1.out (FR_0 a' b' c' d') Tryd.underlying102 rfl (by kernel_rfl) (hK _ ?_))
  simp only [Act.put, List.setIfInBounds_toArray, List.set]
  refine upW_call (by rfl) (by rfl) (.agg (NB c3)) _ rfl (by simp) (fun p => ?_) ?_
  · go_big_quiet_op
    exact ⟨_, fun q => Calls.ext_of (HQ4.out q.x), rfl⟩
  simp only [Act.put, List.setIfInBounds_toArray, List.set]
  refine upW_call (by rfl) (by rfl) (.agg (NB c5)) _ rfl (by simp) (fun p => ?_) ?_
  · go_big_quiet_op
    exact ⟨_, fun q => Calls.ext_of (HQ6.out q.x), rfl⟩
  simp only [Act.put, List.setIfInBounds_toArray, List.set]
  refine upW_nil ⟨(List.forall_mem_cons.2 ⟨rfl, (List.forall_mem_nil _)⟩), fun M wr1 hM hne hbr1 => ?_⟩
  have hm0 := hM _ (List.mem_cons_self ..)
  clear hM hne
  simp only [List.foldr, pS, Act.put, List.setIfInBounds_toArray, List.set]
  obtain ⟨B1x0, hB1x0⟩ : ∃ m, M 11 = m := ⟨_, rfl⟩
  have HB1x0 := Lib.hid (show CT wr1 B1x0 102 (NB c5) by rw [← hB1x0]; exact hm0.2)
  have hlB1x0X0 : N < B1x0 := by rw [← hB1x0]; exact Nat.lt_of_lt_of_le HX0.out.lt hm0.1
  have hlB1x0X1 : (N + 1) < B1x0 := by rw [← hB1x0]; exact Nat.lt_of_lt_of_le HX1.out.lt hm0.1
  have hlB1x0X2 : (N + 1 + 1) < B1x0 := by rw [← hB1x0]; exact Nat.lt_of_lt_of_le HX2.out.lt hm0.1
  have hNB1x0 : N ≤ B1x0 := by rw [← hB1x0]; exact Nat.le_trans (by have := HB.out.size; have := HN.out; omega) hm0.1
  rw [hB1x0]
  clear hm0 hB1x0
  replace HX0 := Lib.hid (HX0.out.ext hbr1)
  replace HX1 := Lib.hid (HX1.out.ext hbr1)
  replace HX2 := Lib.hid (HX2.out.ext hbr1)
  replace HB := Lib.hid (HB.out.trans (hbr1.mono (show N ≤ _ by have := HB.out.size; have := HN.out; omega)))
  clear hbr1
  go_upto_region 2 with fail
  refine wp_region_whole [0, 1, 2, 3, 4, 5, 6, 7, 8, 9, 10] [⟨11, _, 102, (NB 0), 6, 12, _, 102, 30, (NB c11)⟩] [12, 11] (by kernel_rfl) (by kernel_rfl) (List.forall_mem_cons.2 ⟨⟨⟨rfl, rfl, rfl, fun a w => alloc_run _ _ zNu a _ rfl w⟩, rfl, rfl, rfl, rfl, (NB_rw c11).info (by kernel_rfl), (NB_rw 0).same (NB_rw c11), (NB_rw c11).one⟩, (List.forall_mem_nil _)⟩) rfl ?_
  simp only [List.foldl, List.eraseIdx_cons_succ, List.eraseIdx_cons_zero]
  refine upW_late (by rfl) (.pointer (some ⟨N, 32, none⟩)) (fun _ => by kernel_rfl) ?_
  simp only [Act.put, List.setIfInBounds_toArray, List.set]
  refine upW_val (by rfl) (by rfl) (by rfl) (fun K hK => quiet_load_part _ _ rfl N 32 rfl 108 (FR a b c d) (NB b) 32 (NB_rw b) _ HX0.out (FR_1 a b c d) Tryd.underlying102 rfl (by kernel_rfl) (hK _ ?_))
  simp only [Act.put, List.setIfInBounds_toArray, List.set]
  refine upW_late (by rfl) (.pointer (some ⟨N, 0, none⟩)) (fun _ => by kernel_rfl) ?_
  simp only [Act.put, List.setIfInBounds_toArray, List.set]
  refine upW_val (by rfl) (by rfl) (by rfl) (fun K hK => quiet_load_part _ _ rfl N 0 rfl 108 (FR a b c d) (NB a) 32 (NB_rw a) _ HX0.out (FR_0 a b c d) Tryd.underlying102 rfl (by kernel_rfl) (hK _ ?_))
  simp only [Act.put, List.setIfInBounds_toArray, List.set]
  refine upW_call (by rfl) (by rfl) (.agg (NB c7)) _ rfl (by simp) (fun p => ?_) ?_
  · go_big_quiet_op
    exact ⟨_, fun q => Calls.ext_of (HQ8.out q.x), rfl⟩
  simp only [Act.put, List.setIfInBounds_toArray, List.set]
  refine upW_late (by rfl) (.pointer (some ⟨(N + 1), 32, none⟩)) (fun _ => by kernel_rfl) ?_
  simp only [Act.put, List.setIfInBounds_toArray, List.set]
  refine upW_val (by rfl) (by rfl) (by rfl) (fun K hK => quiet_load_part _ _ rfl (N + 1) 32 rfl 108 (FR a' b' c' d') (NB b') 32 (NB_rw b') _ HX1.out (FR_1 a' b' c' d') Tryd.underlying102 rfl (by kernel_rfl) (hK _ ?_))
  simp only [Act.put, List.setIfInBounds_toArray, List.set]
  refine upW_late (by rfl) (.pointer (some ⟨(N + 1), 0, none⟩)) (fun _ => by kernel_rfl) ?_
  simp only [Act.put, List.setIfInBounds_toArray, List.set]
  refine upW_val (by rfl) (by rfl) (by rfl) (fun K hK => quiet_load_part _ _ rfl (N + 1) 0 rfl 108 (FR a' b' c' d') (NB a') 32 (NB_rw a') _ HX1.out (FR_0 a' b' c' d') Tryd.underlying102 rfl (by kernel_rfl) (hK _ ?_))
  simp only [Act.put, List.setIfInBounds_toArray, List.set]
  refine upW_call (by rfl) (by rfl) (.agg (NB c9)) _ rfl (by simp) (fun p => ?_) ?_
  · go_big_quiet_op
    exact ⟨_, fun q => Calls.ext_of (HQ10.out q.x), rfl⟩
  simp only [Act.put, List.setIfInBounds_toArray, List.set]
  refine upW_call (by rfl) (by rfl) (.agg (NB c11)) _ rfl (by simp) (fun p => ?_) ?_
  · go_big_quiet_op
    exact ⟨_, fun q => Calls.ext_of (HQ12.out q.x), rfl⟩
  simp only [Act.put, List.setIfInBounds_toArray, List.set]
  refine upW_nil ⟨(List.forall_mem_cons.2 ⟨rfl, (List.forall_mem_nil _)⟩), fun M wr2 hM hne hbr2 => ?_⟩
  have hm0 := hM _ (List.mem_cons_self ..)
  clear hM hne
  simp only [List.foldr, pS, Act.put, List.setIfInBounds_toArray, List.set]
  obtain ⟨B2x0, hB2x0⟩ : ∃ m, M 11 = m := ⟨_, rfl⟩
  have HB2x0 := Lib.hid (show CT wr2 B2x0 102 (NB c11) by rw [← hB2x0]; exact hm0.2)
  have hlB2x0X0 : N < B2x0 := by rw [← hB2x0]; exact Nat.lt_of_lt_of_le HX0.out.lt hm0.1
  have hlB2x0X1 : (N + 1) < B2x0 := by rw [← hB2x0]; exact Nat.lt_of_lt_of_le HX1.out.lt hm0.1
  have hlB2x0X2 : (N + 1 + 1) < B2x0 := by rw [← hB2x0]; exact Nat.lt_of_lt_of_le HX2.out.lt hm0.1
  have hlB2x0B1x0 : B1x0 < B2x0 := by rw [← hB2x0]; exact Nat.lt_of_lt_of_le HB1x0.out.lt hm0.1
  have hNB2x0 : N ≤ B2x0 := by rw [← hB2x0]; exact Nat.le_trans (by have := HB.out.size; have := HN.out; omega) hm0.1
  rw [hB2x0]
  clear hm0 hB2x0
  replace HX0 := Lib.hid (HX0.out.ext hbr2)
  replace HX1 := Lib.hid (HX1.out.ext hbr2)
  replace HX2 := Lib.hid (HX2.out.ext hbr2)
  replace HB1x0 := Lib.hid (HB1x0.out.ext hbr2)
  replace HB := Lib.hid (HB.out.trans (hbr2.mono (show N ≤ _ by have := HB.out.size; have := HN.out; omega)))
  clear hbr2
  go_upto_region 3 with fail
  refine wp_region_seq 5 ?_
  simp only [List.take_succ_cons, List.take_zero, List.drop_succ_cons, List.drop_zero]
  refine upW_late (by rfl) (.pointer (some ⟨N, 64, none⟩)) (fun _ => by kernel_rfl) ?_
  simp only [Act.put, List.setIfInBounds_toArray, List.set]
  refine upW_val (by rfl) (by rfl) (by rfl) (fun K hK => quiet_load_part _ _ rfl N 64 rfl 108 (FR a b c d) (NB c) 32 (NB_rw c) _ HX0.out (FR_2 a b c d) Tryd.underlying102 rfl (by kernel_rfl) (hK _ ?_))
  simp only [Act.put, List.setIfInBounds_toArray, List.set]
  refine upW_late (by rfl) (.pointer (some ⟨(N + 1), 64, none⟩)) (fun _ => by kernel_rfl) ?_
  simp only [Act.put, List.setIfInBounds_toArray, List.set]
  refine upW_val (by rfl) (by rfl) (by rfl) (fun K hK => quiet_load_part _ _ rfl (N + 1) 64 rfl 108 (FR a' b' c' d') (NB c') 32 (NB_rw c') _ HX1.out (FR_2 a' b' c' d') Tryd.underlying102 rfl (by kernel_rfl) (hK _ ?_))
  simp only [Act.put, List.setIfInBounds_toArray, List.set]
  refine upW_call (by rfl) (by rfl) (.agg (NB c13)) _ rfl (by simp) (fun p => ?_) ?_
  · go_big_quiet_op
    exact ⟨_, fun q => Calls.ext_of (HQ14.out q.x), rfl⟩
  simp only [Act.put, List.setIfInBounds_toArray, List.set]
  refine upW_nil (fun wr3 hbr3 => ?_)
  replace HX0 := Lib.hid (HX0.out.ext hbr3)
  replace HX1 := Lib.hid (HX1.out.ext hbr3)
  replace HX2 := Lib.hid (HX2.out.ext hbr3)
  replace HB1x0 := Lib.hid (HB1x0.out.ext hbr3)
  replace HB2x0 := Lib.hid (HB2x0.out.ext hbr3)
  replace HB := Lib.hid (HB.out.trans (hbr3.mono (show N ≤ _ by have := HB.out.size; have := HN.out; omega)))
  clear hbr3
  refine wpList_new1 rfl 102 rfl (NB 0) zNu rfl _ _ rfl rfl (NB c13) 32 (NB_rw c13) (NB_rw 0).size (by kernel_rfl) rfl rfl (fun B4 wr4 hB4 hbr4 hCB4 => ?_)
  have HB4 := Lib.hid hCB4
  have hlB4X0 : N < B4 := by rw [← hB4]; exact HX0.out.lt
  have hlB4X1 : (N + 1) < B4 := by rw [← hB4]; exact HX1.out.lt
  have hlB4X2 : (N + 1 + 1) < B4 := by rw [← hB4]; exact HX2.out.lt
  have hlB4B1x0 : B1x0 < B4 := by rw [← hB4]; exact HB1x0.out.lt
  have hlB4B2x0 : B2x0 < B4 := by rw [← hB4]; exact HB2x0.out.lt
  have hNB4 : N ≤ B4 := by rw [← hB4]; have := HB.out.size; have := HN.out; omega
  clear hB4 hCB4
  simp only [Act.put, List.setIfInBounds_toArray, List.set]
  replace HX0 := Lib.hid (HX0.out.ext hbr4)
  replace HX1 := Lib.hid (HX1.out.ext hbr4)
  replace HX2 := Lib.hid (HX2.out.ext hbr4)
  replace HB1x0 := Lib.hid (HB1x0.out.ext hbr4)
  replace HB2x0 := Lib.hid (HB2x0.out.ext hbr4)
  replace HB := Lib.hid (HB.out.trans (hbr4.mono (show N ≤ _ by have := HB.out.size; have := HN.out; omega)))
  clear hbr4
  go_upto_region 4 with fail
  refine wp_region_whole [0, 1, 2, 3, 4, 5, 6] [⟨7, _, 102, (NB 0), 8, 8, _, 102, 42, (NB c17)⟩] [8, 7] (by kernel_rfl) (by kernel_rfl) (List.forall_mem_cons.2 ⟨⟨⟨rfl, rfl, rfl, fun a w => alloc_run _ _ zNu a _ rfl w⟩, rfl, rfl, rfl, rfl, (NB_rw c17).info (by kernel_rfl), (NB_rw 0).same (NB_rw c17), (NB_rw c17).one⟩, (List.forall_mem_nil _)⟩) rfl ?_
  simp only [List.foldl, List.eraseIdx_cons_succ, List.eraseIdx_cons_zero]
  refine upW_call (by rfl) (by rfl) (.agg (NB cD)) _ rfl (by simp) (fun p => ?_) ?_
  · go_big_quiet_op
    exact ⟨_, fun q => Calls.ext_of (factor_any q.x), rfl⟩
  simp only [Act.put, List.setIfInBounds_toArray, List.set]
  refine upW_late (by rfl) (.pointer (some ⟨N, 96, none⟩)) (fun _ => by kernel_rfl) ?_
  simp only [Act.put, List.setIfInBounds_toArray, List.set]
  refine upW_val (by rfl) (by rfl) (by rfl) (fun K hK => quiet_load_part _ _ rfl N 96 rfl 108 (FR a b c d) (NB d) 32 (NB_rw d) _ HX0.out (FR_3 a b c d) Tryd.underlying102 rfl (by kernel_rfl) (hK _ ?_))
  simp only [Act.put, List.setIfInBounds_toArray, List.set]
  refine upW_late (by rfl) (.pointer (some ⟨(N + 1), 96, none⟩)) (fun _ => by kernel_rfl) ?_
  simp only [Act.put, List.setIfInBounds_toArray, List.set]
  refine upW_val (by rfl) (by rfl) (by rfl) (fun K hK => quiet_load_part _ _ rfl (N + 1) 96 rfl 108 (FR a' b' c' d') (NB d') 32 (NB_rw d') _ HX1.out (FR_3 a' b' c' d') Tryd.underlying102 rfl (by kernel_rfl) (hK _ ?_))
  simp only [Act.put, List.setIfInBounds_toArray, List.set]
  refine upW_call (by rfl) (by rfl) (.agg (NB c15)) _ rfl (by simp) (fun p => ?_) ?_
  · go_big_quiet_op
    exact ⟨_, fun q => Calls.ext_of (HQ16.out q.x), rfl⟩
  simp only [Act.put, List.setIfInBounds_toArray, List.set]
  refine upW_call (by rfl) (by rfl) (.agg (NB c17)) _ rfl (by simp) (fun p => ?_) ?_
  · go_big_quiet_op
    exact ⟨_, fun q => Calls.ext_of (HQ18.out q.x), rfl⟩
  simp only [Act.put, List.setIfInBounds_toArray, List.set]
  refine upW_nil ⟨(List.forall_mem_cons.2 ⟨rfl, (List.forall_mem_nil _)⟩), fun M wr5 hM hne hbr5 => ?_⟩
  have hm0 := hM _ (List.mem_cons_self ..)
  clear hM hne
  simp only [List.foldr, pS, Act.put, List.setIfInBounds_toArray, List.set]
  obtain ⟨B5x0, hB5x0⟩ : ∃ m, M 7 = m := ⟨_, rfl⟩
  have HB5x0 := Lib.hid (show CT wr5 B5x0 102 (NB c17) by rw [← hB5x0]; exact hm0.2)
  have hlB5x0X0 : N < B5x0 := by rw [← hB5x0]; exact Nat.lt_of_lt_of_le HX0.out.lt hm0.1
  have hlB5x0X1 : (N + 1) < B5x0 := by rw [← hB5x0]; exact Nat.lt_of_lt_of_le HX1.out.lt hm0.1
  have hlB5x0X2 : (N + 1 + 1) < B5x0 := by rw [← hB5x0]; exact Nat.lt_of_lt_of_le HX2.out.lt hm0.1
  have hlB5x0B1x0 : B1x0 < B5x0 := by rw [← hB5x0]; exact Nat.lt_of_lt_of_le HB1x0.out.lt hm0.1
  have hlB5x0B2x0 : B2x0 < B5x0 := by rw [← hB5x0]; exact Nat.lt_of_lt_of_le HB2x0.out.lt hm0.1
  have hlB5x0B4 : B4 < B5x0 := by rw [← hB5x0]; exact Nat.lt_of_lt_of_le HB4.out.lt hm0.1
  have hNB5x0 : N ≤ B5x0 := by rw [← hB5x0]; exact Nat.le_trans (by have := HB.out.size; have := HN.out; omega) hm0.1
  rw [hB5x0]
  clear hm0 hB5x0
  replace HX0 := Lib.hid (HX0.out.ext hbr5)
  replace HX1 := Lib.hid (HX1.out.ext hbr5)
  replace HX2 := Lib.hid (HX2.out.ext hbr5)
  replace HB1x0 := Lib.hid (HB1x0.out.ext hbr5)
  replace HB2x0 := Lib.hid (HB2x0.out.ext hbr5)
  replace HB4 := Lib.hid (HB4.out.ext hbr5)
  replace HB := Lib.hid (HB.out.trans (hbr5.mono (show N ≤ _ by have := HB.out.size; have := HN.out; omega)))
  clear hbr5
  go_upto_region 5 with fail
  refine wp_region_upT 6 _ (by kernel_rfl) (by kernel_rfl) rfl (by kernel_rfl) (fun _ _ dst _ _ h => by cases dst <;> exact h) ?_
  simp only [List.take_succ_cons, List.take_zero, List.drop_succ_cons, List.drop_zero]
  refine upW_val (by rfl) (by rfl) (by rfl) (fun K hK => quiet_load_ct _ _ rfl B4 rfl 102 (NB c13) 32 (NB_rw c13) _ HB4.out Tryd.underlying102 rfl (by kernel_rfl) (hK _ ?_))
  simp only [Act.put, List.setIfInBounds_toArray, List.set]
  refine upW_val (by rfl) (by rfl) (by rfl) (fun K hK => quiet_load_ct _ _ rfl B4 rfl 102 (NB c13) 32 (NB_rw c13) _ HB4.out Tryd.underlying102 rfl (by kernel_rfl) (hK _ ?_))
  simp only [Act.put, List.setIfInBounds_toArray, List.set]
  refine upW_call (by rfl) (by rfl) (.agg (NB c19)) _ rfl (by simp) (fun p => ?_) ?_
  · go_big_quiet_op
    exact ⟨_, fun q => Calls.ext_of (HQ20.out q.x), rfl⟩
  simp only [Act.put, List.setIfInBounds_toArray, List.set]
  refine upW_val (by rfl) (by rfl) (by rfl) (fun K hK => quiet_load_ct _ _ rfl B5x0 rfl 102 (NB c17) 32 (NB_rw c17) _ HB5x0.out Tryd.underlying102 rfl (by kernel_rfl) (hK _ ?_))
  simp only [Act.put, List.setIfInBounds_toArray, List.set]
  refine upW_val (by rfl) (by rfl) (by rfl) (fun K hK => quiet_load_ct _ _ rfl B5x0 rfl 102 (NB c17) 32 (NB_rw c17) _ HB5x0.out Tryd.underlying102 rfl (by kernel_rfl) (hK _ ?_))
  simp only [Act.put, List.setIfInBounds_toArray, List.set]
  refine upW_call (by rfl) (by rfl) (.agg (NB c21)) _ rfl (by simp) (fun p => ?_) ?_
  · go_big_quiet_op
    exact ⟨_, fun q => Calls.ext_of (HQ22.out q.x), rfl⟩
  simp only [Act.put, List.setIfInBounds_toArray, List.set]
  refine upW_nil (fun wr6 hbr6 => ?_)
  replace HX0 := Lib.hid (HX0.out.ext hbr6)
  replace HX1 := Lib.hid (HX1.out.ext hbr6)
  replace HX2 := Lib.hid (HX2.out.ext hbr6)
  replace HB1x0 := Lib.hid (HB1x0.out.ext hbr6)
  replace HB2x0 := Lib.hid (HB2x0.out.ext hbr6)
  replace HB4 := Lib.hid (HB4.out.ext hbr6)
  replace HB5x0 := Lib.hid (HB5x0.out.ext hbr6)
  replace HB := Lib.hid (HB.out.trans (hbr6.mono (show N ≤ _ by have := HB.out.size; have := HN.out; omega)))
  clear hbr6
  refine wpList_store_ct rfl 102 _ _ rfl B4 (NB c19) rfl rfl 102 (NB c13) 32 HB4.out (by kernel_rfl) (NB_rw c13) (NB_rw c19) rfl (fun wr7 hSwr7 hOwr7 hWwr7 => ?_)
  replace HB4 := Lib.hid hSwr7
  replace HB := Lib.hid (hWwr7 _ _ HB.out (by omega))
  replace HX0 := Lib.hid (HX0.out.other (hOwr7 _ (by omega)))
  replace HX1 := Lib.hid (HX1.out.other (hOwr7 _ (by omega)))
  replace HX2 := Lib.hid (HX2.out.other (hOwr7 _ (by omega)))
  replace HB1x0 := Lib.hid (HB1x0.out.other (hOwr7 _ (by omega)))
  replace HB2x0 := Lib.hid (HB2x0.out.other (hOwr7 _ (by omega)))
  replace HB5x0 := Lib.hid (HB5x0.out.other (hOwr7 _ (by omega)))
  clear hSwr7 hOwr7 hWwr7
  refine wpList_store_ct rfl 102 _ _ rfl B5x0 (NB c21) rfl rfl 102 (NB c17) 32 HB5x0.out (by kernel_rfl) (NB_rw c17) (NB_rw c21) rfl (fun wr8 hSwr8 hOwr8 hWwr8 => ?_)
  replace HB5x0 := Lib.hid hSwr8
  replace HB := Lib.hid (hWwr8 _ _ HB.out (by omega))
  replace HX0 := Lib.hid (HX0.out.other (hOwr8 _ (by omega)))
  replace HX1 := Lib.hid (HX1.out.other (hOwr8 _ (by omega)))
  replace HX2 := Lib.hid (HX2.out.other (hOwr8 _ (by omega)))
  replace HB1x0 := Lib.hid (HB1x0.out.other (hOwr8 _ (by omega)))
  replace HB2x0 := Lib.hid (HB2x0.out.other (hOwr8 _ (by omega)))
  replace HB4 := Lib.hid (HB4.out.other (hOwr8 _ (by omega)))
  clear hSwr8 hOwr8 hWwr8
  go_upto_region 6 with fail
  refine wp_region_upT 13 _ (by kernel_rfl) (by kernel_rfl) rfl (by kernel_rfl) (fun _ _ dst _ _ h => by cases dst <;> exact h) ?_
  simp only [List.take_succ_cons, List.take_zero, List.drop_succ_cons, List.drop_zero]
  refine upW_val (by rfl) (by rfl) (by rfl) (fun K hK => quiet_load_ct _ _ rfl B2x0 rfl 102 (NB c11) 32 (NB_rw c11) _ HB2x0.out Tryd.underlying102 rfl (by kernel_rfl) (hK _ ?_))
  simp only [Act.put, List.setIfInBounds_toArray, List.set]
  refine upW_val (by rfl) (by rfl) (by rfl) (fun K hK => quiet_load_ct _ _ rfl B1x0 rfl 102 (NB c5) 32 (NB_rw c5) _ HB1x0.out Tryd.underlying102 rfl (by kernel_rfl) (hK _ ?_))
  simp only [Act.put, List.setIfInBounds_toArray, List.set]
  refine upW_call (by rfl) (by rfl) (.agg (NB c23)) _ rfl (by simp) (fun p => ?_) ?_
  · go_big_quiet_op
    exact ⟨_, fun q => Calls.ext_of (HQ24.out q.x), rfl⟩
  simp only [Act.put, List.setIfInBounds_toArray, List.set]
  refine upW_val (by rfl) (by rfl) (by rfl) (fun K hK => quiet_load_ct _ _ rfl B2x0 rfl 102 (NB c11) 32 (NB_rw c11) _ HB2x0.out Tryd.underlying102 rfl (by kernel_rfl) (hK _ ?_))
  simp only [Act.put, List.setIfInBounds_toArray, List.set]
  refine upW_val (by rfl) (by rfl) (by rfl) (fun K hK => quiet_load_ct _ _ rfl B1x0 rfl 102 (NB c5) 32 (NB_rw c5) _ HB1x0.out Tryd.underlying102 rfl (by kernel_rfl) (hK _ ?_))
  simp only [Act.put, List.setIfInBounds_toArray, List.set]
  refine upW_call (by rfl) (by rfl) (.agg (NB c25)) _ rfl (by simp) (fun p => ?_) ?_
  · go_big_quiet_op
    exact ⟨_, fun q => Calls.ext_of (HQ26.out q.x), rfl⟩
  simp only [Act.put, List.setIfInBounds_toArray, List.set]
  refine upW_val (by rfl) (by rfl) (by rfl) (fun K hK => quiet_load_ct _ _ rfl B4 rfl 102 (NB c19) 32 (NB_rw c19) _ HB4.out Tryd.underlying102 rfl (by kernel_rfl) (hK _ ?_))
  simp only [Act.put, List.setIfInBounds_toArray, List.set]
  refine upW_val (by rfl) (by rfl) (by rfl) (fun K hK => quiet_load_ct _ _ rfl B5x0 rfl 102 (NB c21) 32 (NB_rw c21) _ HB5x0.out Tryd.underlying102 rfl (by kernel_rfl) (hK _ ?_))
  simp only [Act.put, List.setIfInBounds_toArray, List.set]
  refine upW_call (by rfl) (by rfl) (.agg (NB c27)) _ rfl (by simp) (fun p => ?_) ?_
  · go_big_quiet_op
    exact ⟨_, fun q => Calls.ext_of (HQ28.out q.x), rfl⟩
  simp only [Act.put, List.setIfInBounds_toArray, List.set]
  refine upW_val (by rfl) (by rfl) (by rfl) (fun K hK => quiet_load_ct _ _ rfl B4 rfl 102 (NB c19) 32 (NB_rw c19) _ HB4.out Tryd.underlying102 rfl (by kernel_rfl) (hK _ ?_))
  simp only [Act.put, List.setIfInBounds_toArray, List.set]
  refine upW_val (by rfl) (by rfl) (by rfl) (fun K hK => quiet_load_ct _ _ rfl B5x0 rfl 102 (NB c21) 32 (NB_rw c21) _ HB5x0.out Tryd.underlying102 rfl (by kernel_rfl) (hK _ ?_))
  simp only [Act.put, List.setIfInBounds_toArray, List.set]
  refine upW_call (by rfl) (by rfl) (.agg (NB c29)) _ rfl (by simp) (fun p => ?_) ?_
  · go_big_quiet_op
    exact ⟨_, fun q => Calls.ext_of (HQ30.out q.x), rfl⟩
  simp only [Act.put, List.setIfInBounds_toArray, List.set]
  refine upW_call (by rfl) (by rfl) (.agg (FR c31 c32 c33 c34)) _ rfl (by simp) (fun p => ?_) ?_
  · go_big_quiet_op
    exact ⟨_, fun q => Calls.ext_of (HQ35.out q.x), rfl⟩
  simp only [Act.put, List.setIfInBounds_toArray, List.set]
  refine upW_nil (fun wr9 hbr9 => ?_)
  replace HX0 := Lib.hid (HX0.out.ext hbr9)
  replace HX1 := Lib.hid (HX1.out.ext hbr9)
  replace HX2 := Lib.hid (HX2.out.ext hbr9)
  replace HB1x0 := Lib.hid (HB1x0.out.ext hbr9)
  replace HB2x0 := Lib.hid (HB2x0.out.ext hbr9)
  replace HB4 := Lib.hid (HB4.out.ext hbr9)
  replace HB5x0 := Lib.hid (HB5x0.out.ext hbr9)
  replace HB := Lib.hid (HB.out.trans (hbr9.mono (show N ≤ _ by have := HB.out.size; have := HN.out; omega)))
  clear hbr9
  refine wpList_store_ct rfl 108 _ _ rfl (N + 1 + 1) (FR c31 c32 c33 c34) rfl rfl 108 (FR 0 0 0 0) 128 HX2.out (by kernel_rfl) (FR_rw 0 0 0 0) (FR_rw c31 c32 c33 c34) rfl (fun wr10 hSwr10 hOwr10 hWwr10 => ?_)
  replace HX2 := Lib.hid hSwr10
  replace HB := Lib.hid (hWwr10 _ _ HB.out (by omega))
  replace HX0 := Lib.hid (HX0.out.other (hOwr10 _ (by omega)))
  replace HX1 := Lib.hid (HX1.out.other (hOwr10 _ (by omega)))
  replace HB1x0 := Lib.hid (HB1x0.out.other (hOwr10 _ (by omega)))
  replace HB2x0 := Lib.hid (HB2x0.out.other (hOwr10 _ (by omega)))
  replace HB4 := Lib.hid (HB4.out.other (hOwr10 _ (by omega)))
  replace HB5x0 := Lib.hid (HB5x0.out.other (hOwr10 _ (by omega)))
  clear hSwr10 hOwr10 hWwr10
  go_wp2
  refine bodyPost_ret (results_ct (by rfl) _ _ (N + 1 + 1) 108 (FR c31 c32 c33 c34) 128 _ (by rfl) HX2.out (FR_rw c31 c32 c33 c34) Tryd.underlying108 rfl (by kernel_rfl)) rfl ⟨by first | rfl | (simp only [HE1.out, HE3.out, HE5.out, HE7.out, HE9.out, HE11.out, HE13.out, HE15.out, HE17.out, HE19.out, HE21.out, HE23.out, HE25.out, HE27.out, HE29.out, HE31.out, HE32.out, HE33.out, HE34.out]), by rw [HN.out]; exact HB.out⟩
set_option maxRecDepth 100000 in
set_option maxHeartbeats 1000000 in
theorem double_any (a b c d : Fp) (w : World) :
    Calls Tryd.prog 78 #[.agg (FR a b c d)] w fun e w' => e = .returned (.agg (FR (((a + b) * (a + b) - (b * b + a * a)) * ((c * c + c * c) - (b * b - a * a))) ((b * b + a * a) * (b * b - a * a)) ((b * b - a * a) * ((c * c + c * c) - (b * b - a * a))) (((a + b) * (a + b) - (b * b + a * a)) * (b * b + a * a)))) ∧ Below w.heap.size w w' := by
  obtain ⟨c1, hc1⟩ : ∃ zq : Fp, zq = a * a := ⟨_, rfl⟩
  have HE1 := Lib.hid hc1
  clear hc1
  have HQ2 := Lib.hid (fun w => IsN.sqr (isN_NB a) w)
  rw [← HE1.out] at HQ2
  obtain ⟨c3, hc3⟩ : ∃ zq : Fp, zq = b * b := ⟨_, rfl⟩
  have HE3 := Lib.hid hc3
  clear hc3
  have HQ4 := Lib.hid (fun w => IsN.sqr (isN_NB b) w)
  rw [← HE3.out] at HQ4
  obtain ⟨c5, hc5⟩ : ∃ zq : Fp, zq = c * c := ⟨_, rfl⟩
  have HE5 := Lib.hid hc5
  clear hc5
  have HQ6 := Lib.hid (fun w => IsN.sqr (isN_NB c) w)
  rw [← HE5.out] at HQ6
  obtain ⟨c7, hc7⟩ : ∃ zq : Fp, zq = c3 + c1 := ⟨_, rfl⟩
  have HE7 := Lib.hid hc7
  clear hc7
  have HQ8 := Lib.hid (fun w => IsN.add (isN_NB c3) (isN_NB c1) w)
  rw [← HE7.out] at HQ8
  obtain ⟨c9, hc9⟩ : ∃ zq : Fp, zq = c3 - c1 := ⟨_, rfl⟩
  have HE9 := Lib.hid hc9
  clear hc9
  have HQ10 := Lib.hid (fun w => IsN.sub (isN_NB c3) (isN_NB c1) w)
  rw [← HE9.out] at HQ10
  obtain ⟨c11, hc11⟩ : ∃ zq : Fp, zq = a + b := ⟨_, rfl⟩
  have HE11 := Lib.hid hc11
  clear hc11
  have HQ12 := Lib.hid (fun w => IsN.add (isN_NB a) (isN_NB b) w)
  rw [← HE11.out] at HQ12
  obtain ⟨c13, hc13⟩ : ∃ zq : Fp, zq = c11 * c11 := ⟨_, rfl⟩
  have HE13 := Lib.hid hc13
  clear hc13
  have HQ14 := Lib.hid (fun w => IsN.sqr (isN_NB c11) w)
  rw [← HE13.out] at HQ14
  obtain ⟨c15, hc15⟩ : ∃ zq : Fp, zq = c13 - c7 := ⟨_, rfl⟩
  have HE15 := Lib.hid hc15
  clear hc15
  have HQ16 := Lib.hid (fun w => IsN.sub (isN_NB c13) (isN_NB c7) w)
  rw [← HE15.out] at HQ16
  obtain ⟨c17, hc17⟩ : ∃ zq : Fp, zq = c5 + c5 := ⟨_, rfl⟩
  have HE17 := Lib.hid hc17
  clear hc17
  have HQ18 := Lib.hid (fun w => IsN.add (isN_NB c5) (isN_NB c5) w)
  rw [← HE17.out] at HQ18
  obtain ⟨c19, hc19⟩ : ∃ zq : Fp, zq = c17 - c9 := ⟨_, rfl⟩
  have HE19 := Lib.hid hc19
  clear hc19
  have HQ20 := Lib.hid (fun w => IsN.sub (isN_NB c17) (isN_NB c9) w)
  rw [← HE19.out] at HQ20
  obtain ⟨c21, hc21⟩ : ∃ zq : Fp, zq = c15 * c19 := ⟨_, rfl⟩
  have HE21 := Lib.hid hc21
  clear hc21
  obtain ⟨c22, hc22⟩ : ∃ zq : Fp, zq = c7 * c9 := ⟨_, rfl⟩
  have HE22 := Lib.hid hc22
  clear hc22
  obtain ⟨c23, hc23⟩ : ∃ zq : Fp, zq = c9 * c19 := ⟨_, rfl⟩
  have HE23 := Lib.hid hc23
  clear hc23
  obtain ⟨c24, hc24⟩ : ∃ zq : Fp, zq = c15 * c7 := ⟨_, rfl⟩
  have HE24 := Lib.hid hc24
  clear hc24
  have HQ25 := Lib.hid (fun w => join_any (isN_NB c15) (isN_NB c7) (isN_NB c9) (isN_NB c19) w)
  rw [← HE21.out, ← HE22.out, ← HE23.out, ← HE24.out] at HQ25
  have hz0 := zFr
  go_enter Tryd.func78, Tryd.ntmps78
  go_upto_region 1 with fail
  generalize hW1 : World.alloc _ _ = W1
  obtain ⟨N, hN⟩ : ∃ n, w.heap.size = n := ⟨_, rfl⟩
  have HX0 := Lib.hid (show CT W1 N 108 (FR a b c d) by subst hW1; rw [← hN]; exact (allocs2_at w _ _).1)
  have HX1 := Lib.hid (show CT W1 (N + 1) 108 (FR 0 0 0 0) by subst hW1; rw [← hN]; exact (allocs2_at w _ _).2)
  have HB := Lib.hid (show Below N w W1 by subst hW1; rw [← hN]; exact allocs2_below w _ _)
  have HN := Lib.hid hN
  rw [hN]
  clear hW1 hN
  refine wp_region_whole [0, 1, 2, 3, 4, 5, 6, 7, 8] [⟨9, _, 102, (NB 0), 3, 12, _, 102, 11, (NB c1)⟩, ⟨10, _, 102, (NB 0), 4, 13, _, 102, 14, (NB c3)⟩, ⟨11, _, 102, (NB 0), 5, 14, _, 102, 17, (NB c5)⟩] [14, 13, 12, 11, 10, 9] (by kernel_rfl) (by kernel_rfl) (List.forall_mem_cons.2 ⟨⟨⟨rfl, rfl, rfl, fun a w => alloc_run _ _ zNu a _ rfl w⟩, rfl, rfl, rfl, rfl, (NB_rw c1).info (by kernel_rfl), (NB_rw 0).same (NB_rw c1), (NB_rw c1).one⟩, (List.forall_mem_cons.2 ⟨⟨⟨rfl, rfl, rfl, fun a w => alloc_run _ _ zNu a _ rfl w⟩, rfl, rfl, rfl, rfl, (NB_rw c3).info (by kernel_rfl), (NB_rw 0).same (NB_rw c3), (NB_rw c3).one⟩, (List.forall_mem_cons.2 ⟨⟨⟨rfl, rfl, rfl, fun a w => alloc_run _ _ zNu a _ rfl w⟩, rfl, rfl, rfl, rfl, (NB_rw c5).info (by kernel_rfl), (NB_rw 0).same (NB_rw c5), (NB_rw c5).one⟩, (List.forall_mem_nil _)⟩)⟩)⟩) rfl ?_
  simp only [List.foldl, List.eraseIdx_cons_succ, List.eraseIdx_cons_zero]
  refine upW_late (by rfl) (.pointer (some ⟨N, 0, none⟩)) (fun _ => by kernel_rfl) ?_
  simp only [Act.put, List.setIfInBounds_toArray, List.set]
  refine upW_val (by rfl) (by rfl) (by rfl) (fun K hK => quiet_load_part _ _ rfl N 0 rfl 108 (FR a b c d) (NB a) 32 (NB_rw a) _ HX0.out (FR_0 a b c d) Tryd.underlying102 rfl (by kernel_rfl) (hK _ ?_))
  simp only [Act.put, List.setIfInBounds_toArray, List.set]
  refine upW_call (by rfl) (by rfl) (.agg (NB c1)) _ rfl (by simp) (fun p => ?_) ?_
  · go_big_quiet_op
    exact ⟨_, fun q => Calls.ext_of (HQ2.out q.x), rfl⟩
  simp only [Act.put, List.setIfInBounds_toArray, List.set]
  refine upW_late (by rfl) (.pointer (some ⟨N, 32, none⟩)) (fun _ => by kernel_rfl) ?_
  simp only [Act.put, List.setIfInBounds_toArray, List.set]
  refine upW_val (by rfl) (by rfl) (by rfl) (fun K hK => quiet_load_part _ _ rfl N 32 rfl 108 (FR a b c d) (NB b) 32 (NB_rw b) _ HX0.out (FR_1 a b c d) Tryd.underlying102 rfl (by kernel_rfl) (hK _ ?_))
  simp only [Act.put, List.setIfInBounds_toArray, List.set]
  refine upW_call (by rfl) (by rfl) (.agg (NB c3)) _ rfl (by simp) (fun p => ?_) ?_
  · go_big_quiet_op
    exact ⟨_, fun q => Calls.ext_of (HQ4.out q.x), rfl⟩
  simp only [Act.put, List.setIfInBounds_toArray, List.set]
  refine upW_late (by rfl) (.pointer (some ⟨N, 64, none⟩)) (fun _ => by kernel_rfl) ?_
  simp only [Act.put, List.setIfInBounds_toArray, List.set]
  refine upW_val (by rfl) (by rfl) (by rfl) (fun K hK => quiet_load_part _ _ rfl N 64 rfl 108 (FR a b c d) (NB c) 32 (NB_rw c) _ HX0.out (FR_2 a b c d) Tryd.underlying102 rfl (by kernel_rfl) (hK _ ?_))
  simp only [Act.put, List.setIfInBounds_toArray, List.set]
  refine upW_call (by rfl) (by rfl) (.agg (NB c5)) _ rfl (by simp) (fun p => ?_) ?_
  · go_big_quiet_op
    exact ⟨_, fun q => Calls.ext_of (HQ6.out q.x), rfl⟩
  simp only [Act.put, List.setIfInBounds_toArray, List.set]
  refine upW_nil ⟨(List.forall_mem_cons.2 ⟨rfl, (List.forall_mem_cons.2 ⟨rfl, (List.forall_mem_cons.2 ⟨rfl, (List.forall_mem_nil _)⟩)⟩)⟩), fun M wr1 hM hne hbr1 => ?_⟩
  have hm0 := hM _ (List.mem_cons_self ..)
  have hm1 := hM _ (List.mem_cons_of_mem _ (List.mem_cons_self ..))
  have hm2 := hM _ (List.mem_cons_of_mem _ (List.mem_cons_of_mem _ (List.mem_cons_self ..)))
  have hn1x01 : M 9 ≠ M 10 := hne _ (List.mem_cons_self ..) _ (List.mem_cons_of_mem _ (List.mem_cons_self ..)) (show (9 : Nat) ≠ 10 by decide)
  have hn1x02 : M 9 ≠ M 11 := hne _ (List.mem_cons_self ..) _ (List.mem_cons_of_mem _ (List.mem_cons_of_mem _ (List.mem_cons_self ..))) (show (9 : Nat) ≠ 11 by decide)
  have hn1x12 : M 10 ≠ M 11 := hne _ (List.mem_cons_of_mem _ (List.mem_cons_self ..)) _ (List.mem_cons_of_mem _ (List.mem_cons_of_mem _ (List.mem_cons_self ..))) (show (10 : Nat) ≠ 11 by decide)
  clear hM hne
  simp only [List.foldr, pS, Act.put, List.setIfInBounds_toArray, List.set]
  obtain ⟨B1x0, hB1x0⟩ : ∃ m, M 9 = m := ⟨_, rfl⟩
  have HB1x0 := Lib.hid (show CT wr1 B1x0 102 (NB c1) by rw [← hB1x0]; exact hm0.2)
  have hlB1x0X0 : N < B1x0 := by rw [← hB1x0]; exact Nat.lt_of_lt_of_le HX0.out.lt hm0.1
  have hlB1x0X1 : (N + 1) < B1x0 := by rw [← hB1x0]; exact Nat.lt_of_lt_of_le HX1.out.lt hm0.1
  have hNB1x0 : N ≤ B1x0 := by rw [← hB1x0]; exact Nat.le_trans (by have := HB.out.size; have := HN.out; omega) hm0.1
  obtain ⟨B1x1, hB1x1⟩ : ∃ m, M 10 = m := ⟨_, rfl⟩
  have HB1x1 := Lib.hid (show CT wr1 B1x1 102 (NB c3) by rw [← hB1x1]; exact hm1.2)
  have hlB1x1X0 : N < B1x1 := by rw [← hB1x1]; exact Nat.lt_of_lt_of_le HX0.out.lt hm1.1
  have hlB1x1X1 : (N + 1) < B1x1 := by rw [← hB1x1]; exact Nat.lt_of_lt_of_le HX1.out.lt hm1.1
  have hNB1x1 : N ≤ B1x1 := by rw [← hB1x1]; exact Nat.le_trans (by have := HB.out.size; have := HN.out; omega) hm1.1
  obtain ⟨B1x2, hB1x2⟩ : ∃ m, M 11 = m := ⟨_, rfl⟩
  have HB1x2 := Lib.hid (show CT wr1 B1x2 102 (NB c5) by rw [← hB1x2]; exact hm2.2)
  have hlB1x2X0 : N < B1x2 := by rw [← hB1x2]; exact Nat.lt_of_lt_of_le HX0.out.lt hm2.1
  have hlB1x2X1 : (N + 1) < B1x2 := by rw [← hB1x2]; exact Nat.lt_of_lt_of_le HX1.out.lt hm2.1
  have hNB1x2 : N ≤ B1x2 := by rw [← hB1x2]; exact Nat.le_trans (by have := HB.out.size; have := HN.out; omega) hm2.1
  rw [hB1x0, hB1x1] at hn1x01
  rw [hB1x0, hB1x2] at hn1x02
  rw [hB1x1, hB1x2] at hn1x12
  rw [hB1x0, hB1x1, hB1x2]
  clear hm0 hB1x0 hm1 hB1x1 hm2 hB1x2
  replace HX0 := Lib.hid (HX0.out.ext hbr1)
  replace HX1 := Lib.hid (HX1.out.ext hbr1)
  replace HB := Lib.hid (HB.out.trans (hbr1.mono (show N ≤ _ by have := HB.out.size; have := HN.out; omega)))
  clear hbr1
  go_upto_region 2 with fail
  refine wp_region_whole [0, 1, 2, 3, 4, 5] [⟨6, _, 102, (NB 0), 6, 8, _, 102, 20, (NB c7)⟩, ⟨7, _, 102, (NB 0), 7, 9, _, 102, 23, (NB c9)⟩] [9, 8, 7, 6] (by kernel_rfl) (by kernel_rfl) (List.forall_mem_cons.2 ⟨⟨⟨rfl, rfl, rfl, fun a w => alloc_run _ _ zNu a _ rfl w⟩, rfl, rfl, rfl, rfl, (NB_rw c7).info (by kernel_rfl), (NB_rw 0).same (NB_rw c7), (NB_rw c7).one⟩, (List.forall_mem_cons.2 ⟨⟨⟨rfl, rfl, rfl, fun a w => alloc_run _ _ zNu a _ rfl w⟩, rfl, rfl, rfl, rfl, (NB_rw c9).info (by kernel_rfl), (NB_rw 0).same (NB_rw c9), (NB_rw c9).one⟩, (List.forall_mem_nil _)⟩)⟩) rfl ?_
  simp only [List.foldl, List.eraseIdx_cons_succ, List.eraseIdx_cons_zero]
  refine upW_val (by rfl) (by rfl) (by rfl) (fun K hK => quiet_load_ct _ _ rfl B1x1 rfl 102 (NB c3) 32 (NB_rw c3) _ HB1x1.out Tryd.underlying102 rfl (by kernel_rfl) (hK _ ?_))
  simp only [Act.put, List.setIfInBounds_toArray, List.set]
  refine upW_val (by rfl) (by rfl) (by rfl) (fun K hK => quiet_load_ct _ _ rfl B1x0 rfl 102 (NB c1) 32 (NB_rw c1) _ HB1x0.out Tryd.underlying102 rfl (by kernel_rfl) (hK _ ?_))
  simp only [Act.put, List.setIfInBounds_toArray, List.set]
  refine upW_call (by rfl) (by rfl) (.agg (NB c7)) _ rfl (by simp) (fun p => ?_) ?_
  · go_big_quiet_op
    exact ⟨_, fun q => Calls.ext_of (HQ8.out q.x), rfl⟩
  simp only [Act.put, List.setIfInBounds_toArray, List.set]
  refine upW_val (by rfl) (by rfl) (by rfl) (fun K hK => quiet_load_ct _ _ rfl B1x1 rfl 102 (NB c3) 32 (NB_rw c3) _ HB1x1.out Tryd.underlying102 rfl (by kernel_rfl) (hK _ ?_))
  simp only [Act.put, List.setIfInBounds_toArray, List.set]
  refine upW_val (by rfl) (by rfl) (by rfl) (fun K hK => quiet_load_ct _ _ rfl B1x0 rfl 102 (NB c1) 32 (NB_rw c1) _ HB1x0.out Tryd.underlying102 rfl (by kernel_rfl) (hK _ ?_))
  simp only [Act.put, List.setIfInBounds_toArray, List.set]
  refine upW_call (by rfl) (by rfl) (.agg (NB c9)) _ rfl (by simp) (fun p => ?_) ?_
  · go_big_quiet_op
    exact ⟨_, fun q => Calls.ext_of (HQ10.out q.x), rfl⟩
  simp only [Act.put, List.setIfInBounds_toArray, List.set]
  refine upW_nil ⟨(List.forall_mem_cons.2 ⟨rfl, (List.forall_mem_cons.2 ⟨rfl, (List.forall_mem_nil _)⟩)⟩), fun M wr2 hM hne hbr2 => ?_⟩
  have hm0 := hM _ (List.mem_cons_self ..)
  have hm1 := hM _ (List.mem_cons_of_mem _ (List.mem_cons_self ..))
  have hn2x01 : M 6 ≠ M 7 := hne _ (List.mem_cons_self ..) _ (List.mem_cons_of_mem _ (List.mem_cons_self ..)) (show (6 : Nat) ≠ 7 by decide)
  clear hM hne
  simp only [List.foldr, pS, Act.put, List.setIfInBounds_toArray, List.set]
  obtain ⟨B2x0, hB2x0⟩ : ∃ m, M 6 = m := ⟨_, rfl⟩
  have HB2x0 := Lib.hid (show CT wr2 B2x0 102 (NB c7) by rw [← hB2x0]; exact hm0.2)
  have hlB2x0X0 : N < B2x0 := by rw [← hB2x0]; exact Nat.lt_of_lt_of_le HX0.out.lt hm0.1
  have hlB2x0X1 : (N + 1) < B2x0 := by rw [← hB2x0]; exact Nat.lt_of_lt_of_le HX1.out.lt hm0.1
  have hlB2x0B1x0 : B1x0 < B2x0 := by rw [← hB2x0]; exact Nat.lt_of_lt_of_le HB1x0.out.lt hm0.1
  have hlB2x0B1x1 : B1x1 < B2x0 := by rw [← hB2x0]; exact Nat.lt_of_lt_of_le HB1x1.out.lt hm0.1
  have hlB2x0B1x2 : B1x2 < B2x0 := by rw [← hB2x0]; exact Nat.lt_of_lt_of_le HB1x2.out.lt hm0.1
  have hNB2x0 : N ≤ B2x0 := by rw [← hB2x0]; exact Nat.le_trans (by have := HB.out.size; have := HN.out; omega) hm0.1
  obtain ⟨B2x1, hB2x1⟩ : ∃ m, M 7 = m := ⟨_, rfl⟩
  have HB2x1 := Lib.hid (show CT wr2 B2x1 102 (NB c9) by rw [← hB2x1]; exact hm1.2)
  have hlB2x1X0 : N < B2x1 := by rw [← hB2x1]; exact Nat.lt_of_lt_of_le HX0.out.lt hm1.1
  have hlB2x1X1 : (N + 1) < B2x1 := by rw [← hB2x1]; exact Nat.lt_of_lt_of_le HX1.out.lt hm1.1
  have hlB2x1B1x0 : B1x0 < B2x1 := by rw [← hB2x1]; exact Nat.lt_of_lt_of_le HB1x0.out.lt hm1.1
  have hlB2x1B1x1 : B1x1 < B2x1 := by rw [← hB2x1]; exact Nat.lt_of_lt_of_le HB1x1.out.lt hm1.1
  have hlB2x1B1x2 : B1x2 < B2x1 := by rw [← hB2x1]; exact Nat.lt_of_lt_of_le HB1x2.out.lt hm1.1
  have hNB2x1 : N ≤ B2x1 := by rw [← hB2x1]; exact Nat.le_trans (by have := HB.out.size; have := HN.out; omega) hm1.1
  rw [hB2x0, hB2x1] at hn2x01
  rw [hB2x0, hB2x1]
  clear hm0 hB2x0 hm1 hB2x1
  replace HX0 := Lib.hid (HX0.out.ext hbr2)
  replace HX1 := Lib.hid (HX1.out.ext hbr2)
  replace HB1x0 := Lib.hid (HB1x0.out.ext hbr2)
  replace HB1x1 := Lib.hid (HB1x1.out.ext hbr2)
  replace HB1x2 := Lib.hid (HB1x2.out.ext hbr2)
  replace HB := Lib.hid (HB.out.trans (hbr2.mono (show N ≤ _ by have := HB.out.size; have := HN.out; omega)))
  clear hbr2
  go_upto_region 3 with fail
  refine wp_region_whole [0, 1, 2, 3, 4, 5, 6, 7] [⟨8, _, 102, (NB 0), 8, 9, _, 102, 31, (NB c15)⟩] [9, 8] (by kernel_rfl) (by kernel_rfl) (List.forall_mem_cons.2 ⟨⟨⟨rfl, rfl, rfl, fun a w => alloc_run _ _ zNu a _ rfl w⟩, rfl, rfl, rfl, rfl, (NB_rw c15).info (by kernel_rfl), (NB_rw 0).same (NB_rw c15), (NB_rw c15).one⟩, (List.forall_mem_nil _)⟩) rfl ?_
  simp only [List.foldl, List.eraseIdx_cons_succ, List.eraseIdx_cons_zero]
  refine upW_late (by rfl) (.pointer (some ⟨N, 0, none⟩)) (fun _ => by kernel_rfl) ?_
  simp only [Act.put, List.setIfInBounds_toArray, List.set]
  refine upW_val (by rfl) (by rfl) (by rfl) (fun K hK => quiet_load_part _ _ rfl N 0 rfl 108 (FR a b c d) (NB a) 32 (NB_rw a) _ HX0.out (FR_0 a b c d) Tryd.underlying102 rfl (by kernel_rfl) (hK _ ?_))
  simp only [Act.put, List.setIfInBounds_toArray, List.set]
  refine upW_late (by rfl) (.pointer (some ⟨N, 32, none⟩)) (fun _ => by kernel_rfl) ?_
  simp only [Act.put, List.setIfInBounds_toArray, List.set]
  refine upW_val (by rfl) (by rfl) (by rfl) (fun K hK => quiet_load_part _ _ rfl N 32 rfl 108 (FR a b c d) (NB b) 32 (NB_rw b) _ HX0.out (FR_1 a b c d) Tryd.underlying102 rfl (by kernel_rfl) (hK _ ?_))
  simp only [Act.put, List.setIfInBounds_toArray, List.set]
  refine upW_call (by rfl) (by rfl) (.agg (NB c11)) _ rfl (by simp) (fun p => ?_) ?_
  · go_big_quiet_op
    exact ⟨_, fun q => Calls.ext_of (HQ12.out q.x), rfl⟩
  simp only [Act.put, List.setIfInBounds_toArray, List.set]
  refine upW_call (by rfl) (by rfl) (.agg (NB c13)) _ rfl (by simp) (fun p => ?_) ?_
  · go_big_quiet_op
    exact ⟨_, fun q => Calls.ext_of (HQ14.out q.x), rfl⟩
  simp only [Act.put, List.setIfInBounds_toArray, List.set]
  refine upW_val (by rfl) (by rfl) (by rfl) (fun K hK => quiet_load_ct _ _ rfl B2x0 rfl 102 (NB c7) 32 (NB_rw c7) _ HB2x0.out Tryd.underlying102 rfl (by kernel_rfl) (hK _ ?_))
  simp only [Act.put, List.setIfInBounds_toArray, List.set]
  refine upW_call (by rfl) (by rfl) (.agg (NB c15)) _ rfl (by simp) (fun p => ?_) ?_
  · go_big_quiet_op
    exact ⟨_, fun q => Calls.ext_of (HQ16.out q.x), rfl⟩
  simp only [Act.put, List.setIfInBounds_toArray, List.set]
  refine upW_nil ⟨(List.forall_mem_cons.2 ⟨rfl, (List.forall_mem_nil _)⟩), fun M wr3 hM hne hbr3 => ?_⟩
  have hm0 := hM _ (List.mem_cons_self ..)
  clear hM hne
  simp only [List.foldr, pS, Act.put, List.setIfInBounds_toArray, List.set]
  obtain ⟨B3x0, hB3x0⟩ : ∃ m, M 8 = m := ⟨_, rfl⟩
  have HB3x0 := Lib.hid (show CT wr3 B3x0 102 (NB c15) by rw [← hB3x0]; exact hm0.2)
  have hlB3x0X0 : N < B3x0 := by rw [← hB3x0]; exact Nat.lt_of_lt_of_le HX0.out.lt hm0.1
  have hlB3x0X1 : (N + 1) < B3x0 := by rw [← hB3x0]; exact Nat.lt_of_lt_of_le HX1.out.lt hm0.1
  have hlB3x0B1x0 : B1x0 < B3x0 := by rw [← hB3x0]; exact Nat.lt_of_lt_of_le HB1x0.out.lt hm0.1
  have hlB3x0B1x1 : B1x1 < B3x0 := by rw [← hB3x0]; exact Nat.lt_of_lt_of_le HB1x1.out.lt hm0.1
  have hlB3x0B1x2 : B1x2 < B3x0 := by rw [← hB3x0]; exact Nat.lt_of_lt_of_le HB1x2.out.lt hm0.1
  have hlB3x0B2x0 : B2x0 < B3x0 := by rw [← hB3x0]; exact Nat.lt_of_lt_of_le HB2x0.out.lt hm0.1
  have hlB3x0B2x1 : B2x1 < B3x0 := by rw [← hB3x0]; exact Nat.lt_of_lt_of_le HB2x1.out.lt hm0.1
  have hNB3x0 : N ≤ B3x0 := by rw [← hB3x0]; exact Nat.le_trans (by have := HB.out.size; have := HN.out; omega) hm0.1
  rw [hB3x0]
  clear hm0 hB3x0
  replace HX0 := Lib.hid (HX0.out.ext hbr3)
  replace HX1 := Lib.hid (HX1.out.ext hbr3)
  replace HB1x0 := Lib.hid (HB1x0.out.ext hbr3)
  replace HB1x1 := Lib.hid (HB1x1.out.ext hbr3)
  replace HB1x2 := Lib.hid (HB1x2.out.ext hbr3)
  replace HB2x0 := Lib.hid (HB2x0.out.ext hbr3)
  replace HB2x1 := Lib.hid (HB2x1.out.ext hbr3)
  replace HB := Lib.hid (HB.out.trans (hbr3.mono (show N ≤ _ by have := HB.out.size; have := HN.out; omega)))
  clear hbr3
  go_upto_region 4 with fail
  refine wp_region_upT 9 _ (by kernel_rfl) (by kernel_rfl) rfl (by kernel_rfl) (fun _ _ dst _ _ h => by cases dst <;> exact h) ?_
  simp only [List.take_succ_cons, List.take_zero, List.drop_succ_cons, List.drop_zero]
  refine upW_val (by rfl) (by rfl) (by rfl) (fun K hK => quiet_load_ct _ _ rfl B3x0 rfl 102 (NB c15) 32 (NB_rw c15) _ HB3x0.out Tryd.underlying102 rfl (by kernel_rfl) (hK _ ?_))
  simp only [Act.put, List.setIfInBounds_toArray, List.set]
  refine upW_val (by rfl) (by rfl) (by rfl) (fun K hK => quiet_load_ct _ _ rfl B2x0 rfl 102 (NB c7) 32 (NB_rw c7) _ HB2x0.out Tryd.underlying102 rfl (by kernel_rfl) (hK _ ?_))
  simp only [Act.put, List.setIfInBounds_toArray, List.set]
  refine upW_val (by rfl) (by rfl) (by rfl) (fun K hK => quiet_load_ct _ _ rfl B2x1 rfl 102 (NB c9) 32 (NB_rw c9) _ HB2x1.out Tryd.underlying102 rfl (by kernel_rfl) (hK _ ?_))
  simp only [Act.put, List.setIfInBounds_toArray, List.set]
  refine upW_val (by rfl) (by rfl) (by rfl) (fun K hK => quiet_load_ct _ _ rfl B1x2 rfl 102 (NB c5) 32 (NB_rw c5) _ HB1x2.out Tryd.underlying102 rfl (by kernel_rfl) (hK _ ?_))
  simp only [Act.put, List.setIfInBounds_toArray, List.set]
  refine upW_val (by rfl) (by rfl) (by rfl) (fun K hK => quiet_load_ct _ _ rfl B1x2 rfl 102 (NB c5) 32 (NB_rw c5) _ HB1x2.out Tryd.underlying102 rfl (by kernel_rfl) (hK _ ?_))
  simp only [Act.put, List.setIfInBounds_toArray, List.set]
  refine upW_call (by rfl) (by rfl) (.agg (NB c17)) _ rfl (by simp) (fun p => ?_) ?_
  · go_big_quiet_op
    exact ⟨_, fun q => Calls.ext_of (HQ18.out q.x), rfl⟩
  simp only [Act.put, List.setIfInBounds_toArray, List.set]
  refine upW_val (by rfl) (by rfl) (by rfl) (fun K hK => quiet_load_ct _ _ rfl B2x1 rfl 102 (NB c9) 32 (NB_rw c9) _ HB2x1.out Tryd.underlying102 rfl (by kernel_rfl) (hK _ ?_))
  simp only [Act.put, List.setIfInBounds_toArray, List.set]
  refine upW_call (by rfl) (by rfl) (.agg (NB c19)) _ rfl (by simp) (fun p => ?_) ?_
  · go_big_quiet_op
    exact ⟨_, fun q => Calls.ext_of (HQ20.out q.x), rfl⟩
  simp only [Act.put, List.setIfInBounds_toArray, List.set]
  refine upW_call (by rfl) (by rfl) (.agg (FR c21 c22 c23 c24)) _ rfl (by simp) (fun p => ?_) ?_
  · go_big_quiet_op
    exact ⟨_, fun q => Calls.ext_of (HQ25.out q.x), rfl⟩
  simp only [Act.put, List.setIfInBounds_toArray, List.set]
  refine upW_nil (fun wr4 hbr4 => ?_)
  replace HX0 := Lib.hid (HX0.out.ext hbr4)
  replace HX1 := Lib.hid (HX1.out.ext hbr4)
  replace HB1x0 := Lib.hid (HB1x0.out.ext hbr4)
  replace HB1x1 := Lib.hid (HB1x1.out.ext hbr4)
  replace HB1x2 := Lib.hid (HB1x2.out.ext hbr4)
  replace HB2x0 := Lib.hid (HB2x0.out.ext hbr4)
  replace HB2x1 := Lib.hid (HB2x1.out.ext hbr4)
  replace HB3x0 := Lib.hid (HB3x0.out.ext hbr4)
  replace HB := Lib.hid (HB.out.trans (hbr4.mono (show N ≤ _ by have := HB.out.size; have := HN.out; omega)))
  clear hbr4
  refine wpList_store_ct rfl 108 _ _ rfl (N + 1) (FR c21 c22 c23 c24) rfl rfl 108 (FR 0 0 0 0) 128 HX1.out (by kernel_rfl) (FR_rw 0 0 0 0) (FR_rw c21 c22 c23 c24) rfl (fun wr5 hSwr5 hOwr5 hWwr5 => ?_)
  replace HX1 := Lib.hid hSwr5
  replace HB := Lib.hid (hWwr5 _ _ HB.out (by omega))
  replace HX0 := Lib.hid (HX0.out.other (hOwr5 _ (by omega)))
  replace HB1x0 := Lib.hid (HB1x0.out.other (hOwr5 _ (by omega)))
  replace HB1x1 := Lib.hid (HB1x1.out.other (hOwr5 _ (by omega)))
  replace HB1x2 := Lib.hid (HB1x2.out.other (hOwr5 _ (by omega)))
  replace HB2x0 := Lib.hid (HB2x0.out.other (hOwr5 _ (by omega)))
  replace HB2x1 := Lib.hid (HB2x1.out.other (hOwr5 _ (by omega)))
  replace HB3x0 := Lib.hid (HB3x0.out.other (hOwr5 _ (by omega)))
  clear hSwr5 hOwr5 hWwr5
  go_wp2
  refine bodyPost_ret (results_ct (by rfl) _ _ (N + 1) 108 (FR c21 c22 c23 c24) 128 _ (by rfl) HX1.out (FR_rw c21 c22 c23 c24) Tryd.underlying108 rfl (by kernel_rfl)) rfl ⟨by first | rfl | (simp only [HE1.out, HE3.out, HE5.out, HE7.out, HE9.out, HE11.out, HE13.out, HE15.out, HE17.out, HE19.out, HE21.out, HE22.out, HE23.out, HE24.out]), by rw [HN.out]; exact HB.out⟩
set_option maxRecDepth 100000 in
set_option maxHeartbeats 1000000 in
theorem point_any (a b c d : Fp) (w : World) :
    Calls Tryd.prog 61 #[.agg (FR a b c d)] w fun e w' => e = .returned (.agg (PB (encXY (a * finv c) (b * finv c)))) ∧ Below w.heap.size w w' := by
  obtain ⟨c1, hc1⟩ : ∃ zq : Fp, zq = finv c := ⟨_, rfl⟩
  have HE1 := Lib.hid hc1
  clear hc1
  have HQ2 := Lib.hid (fun w => IsN.inv (isN_NB c) w)
  rw [← HE1.out] at HQ2
  obtain ⟨c3, hc3⟩ : ∃ zq : Fp, zq = a * c1 := ⟨_, rfl⟩
  have HE3 := Lib.hid hc3
  clear hc3
  have HQ4 := Lib.hid (fun w => IsN.mul (isN_NB a) (isN_NB c1) w)
  rw [← HE3.out] at HQ4
  obtain ⟨c5, hc5⟩ : ∃ zq : Fp, zq = b * c1 := ⟨_, rfl⟩
  have HE5 := Lib.hid hc5
  clear hc5
  have HQ6 := Lib.hid (fun w => IsN.mul (isN_NB b) (isN_NB c1) w)
  rw [← HE5.out] at HQ6
  have HQ7 := Lib.hid (fun w => encode_any (isN_NB c3) (isN_NB c5) w)
  have hz0 := zPt
  go_enter Tryd.func61, Tryd.ntmps61
  go_upto_region 1 with fail
  generalize hW1 : World.alloc _ _ = W1
  obtain ⟨N, hN⟩ : ∃ n, w.heap.size = n := ⟨_, rfl⟩
  have HX0 := Lib.hid (show CT W1 N 108 (FR a b c d) by subst hW1; rw [← hN]; exact (allocs2_at w _ _).1)
  have HX1 := Lib.hid (show CT W1 (N + 1) 68 (PB 0) by subst hW1; rw [← hN]; exact (allocs2_at w _ _).2)
  have HB := Lib.hid (show Below N w W1 by subst hW1; rw [← hN]; exact allocs2_below w _ _)
  have HN := Lib.hid hN
  rw [hN]
  clear hW1 hN
  refine wp_region_seq 3 ?_
  simp only [List.take_succ_cons, List.take_zero, List.drop_succ_cons, List.drop_zero]
  refine upW_late (by rfl) (.pointer (some ⟨N, 64, none⟩)) (fun _ => by kernel_rfl) ?_
  simp only [Act.put, List.setIfInBounds_toArray, List.set]
  refine upW_val (by rfl) (by rfl) (by rfl) (fun K hK => quiet_load_part _ _ rfl N 64 rfl 108 (FR a b c d) (NB c) 32 (NB_rw c) _ HX0.out (FR_2 a b c d) Tryd.underlying102 rfl (by kernel_rfl) (hK _ ?_))
  simp only [Act.put, List.setIfInBounds_toArray, List.set]
  refine upW_call (by rfl) (by rfl) (.agg (NB c1)) _ rfl (by simp) (fun p => ?_) ?_
  · go_big_quiet_op
    exact ⟨_, fun q => Calls.ext_of (HQ2.out q.x), rfl⟩
  simp only [Act.put, List.setIfInBounds_toArray, List.set]
  refine upW_nil (fun wr1 hbr1 => ?_)
  replace HX0 := Lib.hid (HX0.out.ext hbr1)
  replace HX1 := Lib.hid (HX1.out.ext hbr1)
  replace HB := Lib.hid (HB.out.trans (hbr1.mono (show N ≤ _ by have := HB.out.size; have := HN.out; omega)))
  clear hbr1
  refine wpList_new1 rfl 102 rfl (NB 0) zNu rfl _ _ rfl rfl (NB c1) 32 (NB_rw c1) (NB_rw 0).size (by kernel_rfl) rfl rfl (fun B2 wr2 hB2 hbr2 hCB2 => ?_)
  have HB2 := Lib.hid hCB2
  have hlB2X0 : N < B2 := by rw [← hB2]; exact HX0.out.lt
  have hlB2X1 : (N + 1) < B2 := by rw [← hB2]; exact HX1.out.lt
  have hNB2 : N ≤ B2 := by rw [← hB2]; have := HB.out.size; have := HN.out; omega
  clear hB2 hCB2
  simp only [Act.put, List.setIfInBounds_toArray, List.set]
  replace HX0 := Lib.hid (HX0.out.ext hbr2)
  replace HX1 := Lib.hid (HX1.out.ext hbr2)
  replace HB := Lib.hid (HB.out.trans (hbr2.mono (show N ≤ _ by have := HB.out.size; have := HN.out; omega)))
  clear hbr2
  go_upto_region 2 with fail
  refine wp_region_upT 9 _ (by kernel_rfl) (by kernel_rfl) rfl (by kernel_rfl) (fun _ _ dst _ _ h => by cases dst <;> exact h) ?_
  simp only [List.take_succ_cons, List.take_zero, List.drop_succ_cons, List.drop_zero]
  refine upW_late (by rfl) (.pointer (some ⟨N, 0, none⟩)) (fun _ => by kernel_rfl) ?_
  simp only [Act.put, List.setIfInBounds_toArray, List.set]
  refine upW_val (by rfl) (by rfl) (by rfl) (fun K hK => quiet_load_part _ _ rfl N 0 rfl 108 (FR a b c d) (NB a) 32 (NB_rw a) _ HX0.out (FR_0 a b c d) Tryd.underlying102 rfl (by kernel_rfl) (hK _ ?_))
  simp only [Act.put, List.setIfInBounds_toArray, List.set]
  refine upW_val (by rfl) (by rfl) (by rfl) (fun K hK => quiet_load_ct _ _ rfl B2 rfl 102 (NB c1) 32 (NB_rw c1) _ HB2.out Tryd.underlying102 rfl (by kernel_rfl) (hK _ ?_))
  simp only [Act.put, List.setIfInBounds_toArray, List.set]
  refine upW_call (by rfl) (by rfl) (.agg (NB c3)) _ rfl (by simp) (fun p => ?_) ?_
  · go_big_quiet_op
    exact ⟨_, fun q => Calls.ext_of (HQ4.out q.x), rfl⟩
  simp only [Act.put, List.setIfInBounds_toArray, List.set]
  refine upW_late (by rfl) (.pointer (some ⟨N, 32, none⟩)) (fun _ => by kernel_rfl) ?_
  simp only [Act.put, List.setIfInBounds_toArray, List.set]
  refine upW_val (by rfl) (by rfl) (by rfl) (fun K hK => quiet_load_part _ _ rfl N 32 rfl 108 (FR a b c d) (NB b) 32 (NB_rw b) _ HX0.out (FR_1 a b c d) Tryd.underlying102 rfl (by kernel_rfl) (hK _ ?_))
  simp only [Act.put, List.setIfInBounds_toArray, List.set]
  refine upW_val (by rfl) (by rfl) (by rfl) (fun K hK => quiet_load_ct _ _ rfl B2 rfl 102 (NB c1) 32 (NB_rw c1) _ HB2.out Tryd.underlying102 rfl (by kernel_rfl) (hK _ ?_))
  simp only [Act.put, List.setIfInBounds_toArray, List.set]
  refine upW_call (by rfl) (by rfl) (.agg (NB c5)) _ rfl (by simp) (fun p => ?_) ?_
  · go_big_quiet_op
    exact ⟨_, fun q => Calls.ext_of (HQ6.out q.x), rfl⟩
  simp only [Act.put, List.setIfInBounds_toArray, List.set]
  refine upW_call (by rfl) (by rfl) (.agg (PB (encXY c3 c5))) _ rfl (by simp) (fun p => ?_) ?_
  · go_big_quiet_op
    exact ⟨_, fun q => Calls.ext_of (HQ7.out q.x), rfl⟩
  simp only [Act.put, List.setIfInBounds_toArray, List.set]
  refine upW_nil (fun wr3 hbr3 => ?_)
  replace HX0 := Lib.hid (HX0.out.ext hbr3)
  replace HX1 := Lib.hid (HX1.out.ext hbr3)
  replace HB2 := Lib.hid (HB2.out.ext hbr3)
  replace HB := Lib.hid (HB.out.trans (hbr3.mono (show N ≤ _ by have := HB.out.size; have := HN.out; omega)))
  clear hbr3
  refine wpList_store_ct rfl 68 _ _ rfl (N + 1) (PB (encXY c3 c5)) rfl rfl 68 (PB 0) 32 HX1.out (by kernel_rfl) (PB_rw 0) (PB_rw (encXY c3 c5)) rfl (fun wr4 hSwr4 hOwr4 hWwr4 => ?_)
  replace HX1 := Lib.hid hSwr4
  replace HB := Lib.hid (hWwr4 _ _ HB.out (by omega))
  replace HX0 := Lib.hid (HX0.out.other (hOwr4 _ (by omega)))
  replace HB2 := Lib.hid (HB2.out.other (hOwr4 _ (by omega)))
  clear hSwr4 hOwr4 hWwr4
  go_wp2
  refine bodyPost_ret (results_ct (by rfl) _ _ (N + 1) 68 (PB (encXY c3 c5)) 32 _ (by rfl) HX1.out (PB_rw (encXY c3 c5)) Tryd.underlying68 rfl (by kernel_rfl)) rfl ⟨by first | rfl | (simp only [HE1.out, HE3.out, HE5.out]), by rw [HN.out]; exact HB.out⟩
end Go.Proofs.YtlpchgoaoglhcaaDoor
