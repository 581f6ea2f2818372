/-
  What the document's functions tell.
  Conditions: none.
-/
import Derived.Test.YtfmclkmmkceldaaCvV
import Derived.Test.YtfmclkmmkceldaaCvQ
namespace Go.Proofs.Ytfmclkmmkceldaa
open Go.RowKit

set_option linter.unusedSimpArgs false
set_option linter.unusedVariables false
set_option maxRecDepth 100000 in
set_option maxHeartbeats 1000000 in
theorem XYD_ok (p : Pt) (w : World) :
    Calls Try.prog 25 #[.agg (PB (pN p))] w fun e w' => e = .returned (.tuple #[.agg (NB p.x), .agg (NB p.y), .bool true]) ∧ Below w.heap.size w w' := by
  have HQ1 := Lib.hid (fun w => open_ok p w)
  have HQ2 := Lib.hid (WB.bytes p.x)
  have HQ3 := Lib.hid (WB.bytes p.y)
  have hz0 := zBy
  have hz1 := zPo
  go_enter Try.func25, Try.ntmps25
  go_upto_region 1 with fail
  generalize hW1 : World.alloc _ _ = W1
  obtain ⟨N, hN⟩ : ∃ n, w.heap.size = n := ⟨_, rfl⟩
  have HX0 := Lib.hid (show CT W1 N 23 (PB (pN p)) by subst hW1; rw [← hN]; exact (allocs3_at w _ _ _).1)
  have HX1 := Lib.hid (show CT W1 (N + 1) 23 (PB 0) by subst hW1; rw [← hN]; exact (allocs3_at w _ _ _).2.1)
  have HX2 := Lib.hid (show CT W1 (N + 1 + 1) 23 (PB 0) by subst hW1; rw [← hN]; exact (allocs3_at w _ _ _).2.2)
  have HB := Lib.hid (show Below N w W1 by subst hW1; rw [← hN]; exact allocs3_below w _ _ _)
  have HN := Lib.hid hN
  rw [hN]
  clear hW1 hN
  refine wp_region_seq 5 ?_
  simp only [List.take_succ_cons, List.take_zero, List.drop_succ_cons, List.drop_zero]
  refine upW_val (by rfl) (by rfl) (by rfl) (fun K hK => quiet_load_ct _ _ rfl N rfl 23 (PB (pN p)) 32 (PB_rw (pN p)) _ HX0.out Try.underlying23 rfl (by kernel_rfl) (hK _ ?_))
  simp only [Act.put, List.setIfInBounds_toArray, List.set]
  refine upW_call (by rfl) (by rfl) (.tuple #[.agg (WR p.x p.y 1 (p.x * p.y)), .bool true]) _ rfl (by simp) (fun p => ?_) ?_
  · go_big_quiet_op
    exact ⟨_, fun q => Calls.ext_of (HQ1.out q.x), rfl⟩
  simp only [Act.put, List.setIfInBounds_toArray, List.set]
  refine upW_val (by rfl) (by rfl) (by rfl) ?_
  intro K hK
  go_big_quiet_op
  refine hK _ ?_
  refine upW_late (by rfl) (.agg (WR p.x p.y 1 (p.x * p.y))) (fun _ => rfl) ?_
  simp only [Act.put, List.setIfInBounds_toArray, List.set]
  refine upW_late (by rfl) (.bool true) (fun _ => rfl) ?_
  simp only [Act.put, List.setIfInBounds_toArray, List.set]
  refine upW_nil (fun wr1 hbr1 => ?_)
  replace HX0 := Lib.hid (HX0.out.ext hbr1)
  replace HX1 := Lib.hid (HX1.out.ext hbr1)
  replace HX2 := Lib.hid (HX2.out.ext hbr1)
  replace HB := Lib.hid (HB.out.trans (hbr1.mono (show N ≤ _ by have := HB.out.size; have := HN.out; omega)))
  clear hbr1
  refine wpList_new1 rfl 88 rfl (WR 0 0 0 0) zPo rfl _ _ rfl rfl (WR p.x p.y 1 (p.x * p.y)) 16 (WR_rw p.x p.y 1 (p.x * p.y)) (WR_rw 0 0 0 0).size (by kernel_rfl) rfl rfl (fun B2 wr2 hB2 hbr2 hCB2 => ?_)
  have HB2 := Lib.hid hCB2
  have hlB2X0 : N < B2 := by rw [← hB2]; exact HX0.out.lt
  have hlB2X1 : (N + 1) < B2 := by rw [← hB2]; exact HX1.out.lt
  have hlB2X2 : (N + 1 + 1) < B2 := by rw [← hB2]; exact HX2.out.lt
  have hNB2 : N ≤ B2 := by rw [← hB2]; have := HB.out.size; have := HN.out; omega
  clear hB2 hCB2
  simp only [Act.put, List.setIfInBounds_toArray, List.set]
  replace HX0 := Lib.hid (HX0.out.ext hbr2)
  replace HX1 := Lib.hid (HX1.out.ext hbr2)
  replace HX2 := Lib.hid (HX2.out.ext hbr2)
  replace HB := Lib.hid (HB.out.trans (hbr2.mono (show N ≤ _ by have := HB.out.size; have := HN.out; omega)))
  clear hbr2
  go_upto_region 2 with fail
  refine U2.wp_region_up 7 6 (by kernel_rfl) (by kernel_rfl) (fun _ _ dst _ _ h => by cases dst <;> exact h) ?_
  simp only [List.take_succ_cons, List.take_zero, List.drop_succ_cons, List.drop_zero]
  refine U2.upW_late (by rfl) (.pointer (some ⟨B2, 0, none⟩)) (fun _ => by kernel_rfl) ?_
  simp only [Act.put, List.setIfInBounds_toArray, List.set]
  refine U2.upW_val (by rfl) (by rfl) (by rfl) (fun K hK => quiet_load_part _ _ rfl B2 0 rfl 88 (WR p.x p.y 1 (p.x * p.y)) (WB p.x) 4 (WB_rw p.x) _ HB2.out (WR_0 p.x p.y 1 (p.x * p.y)) Try.underlying86 rfl (by kernel_rfl) (hK _ ?_))
  simp only [Act.put, List.setIfInBounds_toArray, List.set]
  refine U2.upW_call (by rfl) (by rfl) (.agg (NB p.x)) _ rfl (by simp) (fun p => ?_) ?_
  · go_big_quiet_op
    exact ⟨_, fun q => Calls.ext_of (HQ2.out q.x), rfl⟩
  simp only [Act.put, List.setIfInBounds_toArray, List.set]
  refine U2.upW_late (by rfl) (.pointer (some ⟨B2, 4, none⟩)) (fun _ => by kernel_rfl) ?_
  simp only [Act.put, List.setIfInBounds_toArray, List.set]
  refine U2.upW_val (by rfl) (by rfl) (by rfl) (fun K hK => quiet_load_part _ _ rfl B2 4 rfl 88 (WR p.x p.y 1 (p.x * p.y)) (WB p.y) 4 (WB_rw p.y) _ HB2.out (WR_1 p.x p.y 1 (p.x * p.y)) Try.underlying86 rfl (by kernel_rfl) (hK _ ?_))
  simp only [Act.put, List.setIfInBounds_toArray, List.set]
  refine U2.upW_call (by rfl) (by rfl) (.agg (NB p.y)) _ rfl (by simp) (fun p => ?_) ?_
  · go_big_quiet_op
    exact ⟨_, fun q => Calls.ext_of (HQ3.out q.x), rfl⟩
  simp only [Act.put, List.setIfInBounds_toArray, List.set]
  refine U2.upW_late (by rfl) (.bool true) (fun _ => rfl) ?_
  simp only [Act.put, List.setIfInBounds_toArray, List.set]
  refine U2.upW_nil (fun wr3 hbr3 => ?_)
  replace HX0 := Lib.hid (HX0.out.ext hbr3)
  replace HX1 := Lib.hid (HX1.out.ext hbr3)
  replace HX2 := Lib.hid (HX2.out.ext hbr3)
  replace HB2 := Lib.hid (HB2.out.ext hbr3)
  replace HB := Lib.hid (HB.out.trans (hbr3.mono (show N ≤ _ by have := HB.out.size; have := HN.out; omega)))
  clear hbr3
  refine wpList_store_ct rfl 23 _ _ rfl (N + 1) (NB p.x) rfl rfl 23 (PB 0) 32 HX1.out (by kernel_rfl) (PB_rw 0) (NB_rw p.x) rfl (fun wr4 hSwr4 hOwr4 hWwr4 => ?_)
  replace HX1 := Lib.hid hSwr4
  replace HB := Lib.hid (hWwr4 _ _ HB.out (by omega))
  replace HX0 := Lib.hid (HX0.out.other (hOwr4 _ (by omega)))
  replace HX2 := Lib.hid (HX2.out.other (hOwr4 _ (by omega)))
  replace HB2 := Lib.hid (HB2.out.other (hOwr4 _ (by omega)))
  clear hSwr4 hOwr4 hWwr4
  refine wpList_store_ct rfl 23 _ _ rfl (N + 1 + 1) (NB p.y) rfl rfl 23 (PB 0) 32 HX2.out (by kernel_rfl) (PB_rw 0) (NB_rw p.y) rfl (fun wr5 hSwr5 hOwr5 hWwr5 => ?_)
  replace HX2 := Lib.hid hSwr5
  replace HB := Lib.hid (hWwr5 _ _ HB.out (by omega))
  replace HX0 := Lib.hid (HX0.out.other (hOwr5 _ (by omega)))
  replace HX1 := Lib.hid (HX1.out.other (hOwr5 _ (by omega)))
  replace HB2 := Lib.hid (HB2.out.other (hOwr5 _ (by omega)))
  clear hSwr5 hOwr5 hWwr5
  go_wp2
  refine bodyPost_ret (results_ct2_slot (p := 2) (p' := 3) (q := 4) (by rfl) _ _ (N + 1) (N + 1 + 1) 23 23 (NB p.x) (NB p.y) 32 32 _ _ (.bool true) (by rfl) HX1.out (NB_rw p.x) (by rfl) HX2.out (NB_rw p.y) Try.underlying23 rfl (by kernel_rfl) Try.underlying23 rfl (by kernel_rfl) rfl) rfl ⟨by first | rfl | (rfl), by rw [HN.out]; exact HB.out⟩
set_option maxRecDepth 100000 in
set_option maxHeartbeats 1000000 in
theorem XYD_no (n : Nat) (hn : n < 115792089237316195423570985008687907853269984665640564039457584007913129639936) (gn : ∀ p : Pt, pN p ≠ n) (w : World) :
    Calls Try.prog 25 #[.agg (PB n)] w fun e w' => e = .returned (.tuple #[.agg (NB 0), .agg (NB 0), .bool false]) ∧ Below w.heap.size w w' := by
  have HLn := Lib.hid hn
  have HNn := Lib.hid gn
  clear hn gn
  have HQ1 := Lib.hid (fun w => open_no n HLn.out HNn.out w)
  have HQ2 := Lib.hid (WB.bytes 0)
  have HQ3 := Lib.hid (WB.bytes 0)
  have hz0 := zBy
  have hz1 := zPo
  go_enter Try.func25, Try.ntmps25
  go_upto_region 1 with fail
  generalize hW1 : World.alloc _ _ = W1
  obtain ⟨N, hN⟩ : ∃ n, w.heap.size = n := ⟨_, rfl⟩
  have HX0 := Lib.hid (show CT W1 N 23 (PB n) by subst hW1; rw [← hN]; exact (allocs3_at w _ _ _).1)
  have HX1 := Lib.hid (show CT W1 (N + 1) 23 (PB 0) by subst hW1; rw [← hN]; exact (allocs3_at w _ _ _).2.1)
  have HX2 := Lib.hid (show CT W1 (N + 1 + 1) 23 (PB 0) by subst hW1; rw [← hN]; exact (allocs3_at w _ _ _).2.2)
  have HB := Lib.hid (show Below N w W1 by subst hW1; rw [← hN]; exact allocs3_below w _ _ _)
  have HN := Lib.hid hN
  rw [hN]
  clear hW1 hN
  refine wp_region_seq 5 ?_
  simp only [List.take_succ_cons, List.take_zero, List.drop_succ_cons, List.drop_zero]
  refine upW_val (by rfl) (by rfl) (by rfl) (fun K hK => quiet_load_ct _ _ rfl N rfl 23 (PB n) 32 (PB_rw n) _ HX0.out Try.underlying23 rfl (by kernel_rfl) (hK _ ?_))
  simp only [Act.put, List.setIfInBounds_toArray, List.set]
  refine upW_call (by rfl) (by rfl) (.tuple #[.agg (WR 0 0 0 0), .bool false]) _ rfl (by simp) (fun p => ?_) ?_
  · go_big_quiet_op
    exact ⟨_, fun q => Calls.ext_of (HQ1.out q.x), rfl⟩
  simp only [Act.put, List.setIfInBounds_toArray, List.set]
  refine upW_val (by rfl) (by rfl) (by rfl) ?_
  intro K hK
  go_big_quiet_op
  refine hK _ ?_
  refine upW_late (by rfl) (.agg (WR 0 0 0 0)) (fun _ => rfl) ?_
  simp only [Act.put, List.setIfInBounds_toArray, List.set]
  refine upW_late (by rfl) (.bool false) (fun _ => rfl) ?_
  simp only [Act.put, List.setIfInBounds_toArray, List.set]
  refine upW_nil (fun wr1 hbr1 => ?_)
  replace HX0 := Lib.hid (HX0.out.ext hbr1)
  replace HX1 := Lib.hid (HX1.out.ext hbr1)
  replace HX2 := Lib.hid (HX2.out.ext hbr1)
  replace HB := Lib.hid (HB.out.trans (hbr1.mono (show N ≤ _ by have := HB.out.size; have := HN.out; omega)))
  clear hbr1
  refine wpList_new1 rfl 88 rfl (WR 0 0 0 0) zPo rfl _ _ rfl rfl (WR 0 0 0 0) 16 (WR_rw 0 0 0 0) (WR_rw 0 0 0 0).size (by kernel_rfl) rfl rfl (fun B2 wr2 hB2 hbr2 hCB2 => ?_)
  have HB2 := Lib.hid hCB2
  have hlB2X0 : N < B2 := by rw [← hB2]; exact HX0.out.lt
  have hlB2X1 : (N + 1) < B2 := by rw [← hB2]; exact HX1.out.lt
  have hlB2X2 : (N + 1 + 1) < B2 := by rw [← hB2]; exact HX2.out.lt
  have hNB2 : N ≤ B2 := by rw [← hB2]; have := HB.out.size; have := HN.out; omega
  clear hB2 hCB2
  simp only [Act.put, List.setIfInBounds_toArray, List.set]
  replace HX0 := Lib.hid (HX0.out.ext hbr2)
  replace HX1 := Lib.hid (HX1.out.ext hbr2)
  replace HX2 := Lib.hid (HX2.out.ext hbr2)
  replace HB := Lib.hid (HB.out.trans (hbr2.mono (show N ≤ _ by have := HB.out.size; have := HN.out; omega)))
  clear hbr2
  go_upto_region 2 with fail
  refine U2.wp_region_up 7 6 (by kernel_rfl) (by kernel_rfl) (fun _ _ dst _ _ h => by cases dst <;> exact h) ?_
  simp only [List.take_succ_cons, List.take_zero, List.drop_succ_cons, List.drop_zero]
  refine U2.upW_late (by rfl) (.pointer (some ⟨B2, 0, none⟩)) (fun _ => by kernel_rfl) ?_
  simp only [Act.put, List.setIfInBounds_toArray, List.set]
  refine U2.upW_val (by rfl) (by rfl) (by rfl) (fun K hK => quiet_load_part _ _ rfl B2 0 rfl 88 (WR 0 0 0 0) (WB 0) 4 (WB_rw 0) _ HB2.out (WR_0 0 0 0 0) Try.underlying86 rfl (by kernel_rfl) (hK _ ?_))
  simp only [Act.put, List.setIfInBounds_toArray, List.set]
  refine U2.upW_call (by rfl) (by rfl) (.agg (NB 0)) _ rfl (by simp) (fun p => ?_) ?_
  · go_big_quiet_op
    exact ⟨_, fun q => Calls.ext_of (HQ2.out q.x), rfl⟩
  simp only [Act.put, List.setIfInBounds_toArray, List.set]
  refine U2.upW_late (by rfl) (.pointer (some ⟨B2, 4, none⟩)) (fun _ => by kernel_rfl) ?_
  simp only [Act.put, List.setIfInBounds_toArray, List.set]
  refine U2.upW_val (by rfl) (by rfl) (by rfl) (fun K hK => quiet_load_part _ _ rfl B2 4 rfl 88 (WR 0 0 0 0) (WB 0) 4 (WB_rw 0) _ HB2.out (WR_1 0 0 0 0) Try.underlying86 rfl (by kernel_rfl) (hK _ ?_))
  simp only [Act.put, List.setIfInBounds_toArray, List.set]
  refine U2.upW_call (by rfl) (by rfl) (.agg (NB 0)) _ rfl (by simp) (fun p => ?_) ?_
  · go_big_quiet_op
    exact ⟨_, fun q => Calls.ext_of (HQ3.out q.x), rfl⟩
  simp only [Act.put, List.setIfInBounds_toArray, List.set]
  refine U2.upW_late (by rfl) (.bool false) (fun _ => rfl) ?_
  simp only [Act.put, List.setIfInBounds_toArray, List.set]
  refine U2.upW_nil (fun wr3 hbr3 => ?_)
  replace HX0 := Lib.hid (HX0.out.ext hbr3)
  replace HX1 := Lib.hid (HX1.out.ext hbr3)
  replace HX2 := Lib.hid (HX2.out.ext hbr3)
  replace HB2 := Lib.hid (HB2.out.ext hbr3)
  replace HB := Lib.hid (HB.out.trans (hbr3.mono (show N ≤ _ by have := HB.out.size; have := HN.out; omega)))
  clear hbr3
  refine wpList_store_ct rfl 23 _ _ rfl (N + 1) (NB 0) rfl rfl 23 (PB 0) 32 HX1.out (by kernel_rfl) (PB_rw 0) (NB_rw 0) rfl (fun wr4 hSwr4 hOwr4 hWwr4 => ?_)
  replace HX1 := Lib.hid hSwr4
  replace HB := Lib.hid (hWwr4 _ _ HB.out (by omega))
  replace HX0 := Lib.hid (HX0.out.other (hOwr4 _ (by omega)))
  replace HX2 := Lib.hid (HX2.out.other (hOwr4 _ (by omega)))
  replace HB2 := Lib.hid (HB2.out.other (hOwr4 _ (by omega)))
  clear hSwr4 hOwr4 hWwr4
  refine wpList_store_ct rfl 23 _ _ rfl (N + 1 + 1) (NB 0) rfl rfl 23 (PB 0) 32 HX2.out (by kernel_rfl) (PB_rw 0) (NB_rw 0) rfl (fun wr5 hSwr5 hOwr5 hWwr5 => ?_)
  replace HX2 := Lib.hid hSwr5
  replace HB := Lib.hid (hWwr5 _ _ HB.out (by omega))
  replace HX0 := Lib.hid (HX0.out.other (hOwr5 _ (by omega)))
  replace HX1 := Lib.hid (HX1.out.other (hOwr5 _ (by omega)))
  replace HB2 := Lib.hid (HB2.out.other (hOwr5 _ (by omega)))
  clear hSwr5 hOwr5 hWwr5
  go_wp2
  refine bodyPost_ret (results_ct2_slot (p := 2) (p' := 3) (q := 4) (by rfl) _ _ (N + 1) (N + 1 + 1) 23 23 (NB 0) (NB 0) 32 32 _ _ (.bool false) (by rfl) HX1.out (NB_rw 0) (by rfl) HX2.out (NB_rw 0) Try.underlying23 rfl (by kernel_rfl) Try.underlying23 rfl (by kernel_rfl) rfl) rfl ⟨by first | rfl | (rfl), by rw [HN.out]; exact HB.out⟩
set_option maxRecDepth 100000 in
set_option maxHeartbeats 1000000 in
theorem GoodD_ok (p : Pt) (w : World) :
    Calls Try.prog 29 #[.agg (PB (pN p))] w fun e w' => e = .returned (.bool true) ∧ Below w.heap.size w w' := by
  have HQ1 := Lib.hid (fun w => open_ok p w)
  have hz0 := zPo
  go_enter Try.func29, Try.ntmps29
  go_upto_region 1 with fail
  generalize hW1 : World.alloc _ _ = W1
  obtain ⟨N, hN⟩ : ∃ n, w.heap.size = n := ⟨_, rfl⟩
  have HX0 := Lib.hid (show CT W1 N 23 (PB (pN p)) by subst hW1; rw [← hN]; exact (allocs1_at w _))
  have HB := Lib.hid (show Below N w W1 by subst hW1; rw [← hN]; exact allocs1_below w _)
  have HN := Lib.hid hN
  rw [hN]
  clear hW1 hN
  refine wp_region_seq 5 ?_
  simp only [List.take_succ_cons, List.take_zero, List.drop_succ_cons, List.drop_zero]
  refine upW_val (by rfl) (by rfl) (by rfl) (fun K hK => quiet_load_ct _ _ rfl N rfl 23 (PB (pN p)) 32 (PB_rw (pN p)) _ HX0.out Try.underlying23 rfl (by kernel_rfl) (hK _ ?_))
  simp only [Act.put, List.setIfInBounds_toArray, List.set]
  refine upW_call (by rfl) (by rfl) (.tuple #[.agg (WR p.x p.y 1 (p.x * p.y)), .bool true]) _ rfl (by simp) (fun p => ?_) ?_
  · go_big_quiet_op
    exact ⟨_, fun q => Calls.ext_of (HQ1.out q.x), rfl⟩
  simp only [Act.put, List.setIfInBounds_toArray, List.set]
  refine upW_val (by rfl) (by rfl) (by rfl) ?_
  intro K hK
  go_big_quiet_op
  refine hK _ ?_
  refine upW_late (by rfl) (.agg (WR p.x p.y 1 (p.x * p.y))) (fun _ => rfl) ?_
  simp only [Act.put, List.setIfInBounds_toArray, List.set]
  refine upW_late (by rfl) (.bool true) (fun _ => rfl) ?_
  simp only [Act.put, List.setIfInBounds_toArray, List.set]
  refine upW_nil (fun wr1 hbr1 => ?_)
  replace HX0 := Lib.hid (HX0.out.ext hbr1)
  replace HB := Lib.hid (HB.out.trans (hbr1.mono (show N ≤ _ by have := HB.out.size; have := HN.out; omega)))
  clear hbr1
  refine wpList_new1 rfl 88 rfl (WR 0 0 0 0) zPo rfl _ _ rfl rfl (WR p.x p.y 1 (p.x * p.y)) 16 (WR_rw p.x p.y 1 (p.x * p.y)) (WR_rw 0 0 0 0).size (by kernel_rfl) rfl rfl (fun B2 wr2 hB2 hbr2 hCB2 => ?_)
  have HB2 := Lib.hid hCB2
  have hlB2X0 : N < B2 := by rw [← hB2]; exact HX0.out.lt
  have hNB2 : N ≤ B2 := by rw [← hB2]; have := HB.out.size; have := HN.out; omega
  clear hB2 hCB2
  simp only [Act.put, List.setIfInBounds_toArray, List.set]
  replace HX0 := Lib.hid (HX0.out.ext hbr2)
  replace HB := Lib.hid (HB.out.trans (hbr2.mono (show N ≤ _ by have := HB.out.size; have := HN.out; omega)))
  clear hbr2
  go_wp2
  go_ret
  exact ⟨by first | rfl | (rfl), by rw [HN.out]; exact HB.out⟩
set_option maxRecDepth 100000 in
set_option maxHeartbeats 1000000 in
theorem GoodD_no (n : Nat) (hn : n < 115792089237316195423570985008687907853269984665640564039457584007913129639936) (gn : ∀ p : Pt, pN p ≠ n) (w : World) :
    Calls Try.prog 29 #[.agg (PB n)] w fun e w' => e = .returned (.bool false) ∧ Below w.heap.size w w' := by
  have HLn := Lib.hid hn
  have HNn := Lib.hid gn
  clear hn gn
  have HQ1 := Lib.hid (fun w => open_no n HLn.out HNn.out w)
  have hz0 := zPo
  go_enter Try.func29, Try.ntmps29
  go_upto_region 1 with fail
  generalize hW1 : World.alloc _ _ = W1
  obtain ⟨N, hN⟩ : ∃ n, w.heap.size = n := ⟨_, rfl⟩
  have HX0 := Lib.hid (show CT W1 N 23 (PB n) by subst hW1; rw [← hN]; exact (allocs1_at w _))
  have HB := Lib.hid (show Below N w W1 by subst hW1; rw [← hN]; exact allocs1_below w _)
  have HN := Lib.hid hN
  rw [hN]
  clear hW1 hN
  refine wp_region_seq 5 ?_
  simp only [List.take_succ_cons, List.take_zero, List.drop_succ_cons, List.drop_zero]
  refine upW_val (by rfl) (by rfl) (by rfl) (fun K hK => quiet_load_ct _ _ rfl N rfl 23 (PB n) 32 (PB_rw n) _ HX0.out Try.underlying23 rfl (by kernel_rfl) (hK _ ?_))
  simp only [Act.put, List.setIfInBounds_toArray, List.set]
  refine upW_call (by rfl) (by rfl) (.tuple #[.agg (WR 0 0 0 0), .bool false]) _ rfl (by simp) (fun p => ?_) ?_
  · go_big_quiet_op
    exact ⟨_, fun q => Calls.ext_of (HQ1.out q.x), rfl⟩
  simp only [Act.put, List.setIfInBounds_toArray, List.set]
  refine upW_val (by rfl) (by rfl) (by rfl) ?_
  intro K hK
  go_big_quiet_op
  refine hK _ ?_
  refine upW_late (by rfl) (.agg (WR 0 0 0 0)) (fun _ => rfl) ?_
  simp only [Act.put, List.setIfInBounds_toArray, List.set]
  refine upW_late (by rfl) (.bool false) (fun _ => rfl) ?_
  simp only [Act.put, List.setIfInBounds_toArray, List.set]
  refine upW_nil (fun wr1 hbr1 => ?_)
  replace HX0 := Lib.hid (HX0.out.ext hbr1)
  replace HB := Lib.hid (HB.out.trans (hbr1.mono (show N ≤ _ by have := HB.out.size; have := HN.out; omega)))
  clear hbr1
  refine wpList_new1 rfl 88 rfl (WR 0 0 0 0) zPo rfl _ _ rfl rfl (WR 0 0 0 0) 16 (WR_rw 0 0 0 0) (WR_rw 0 0 0 0).size (by kernel_rfl) rfl rfl (fun B2 wr2 hB2 hbr2 hCB2 => ?_)
  have HB2 := Lib.hid hCB2
  have hlB2X0 : N < B2 := by rw [← hB2]; exact HX0.out.lt
  have hNB2 : N ≤ B2 := by rw [← hB2]; have := HB.out.size; have := HN.out; omega
  clear hB2 hCB2
  simp only [Act.put, List.setIfInBounds_toArray, List.set]
  replace HX0 := Lib.hid (HX0.out.ext hbr2)
  replace HB := Lib.hid (HB.out.trans (hbr2.mono (show N ≤ _ by have := HB.out.size; have := HN.out; omega)))
  clear hbr2
  go_wp2
  go_ret
  exact ⟨by first | rfl | (rfl), by rw [HN.out]; exact HB.out⟩
theorem neg_flat (p : Pt) : Rep (0 - p.x) p.y 1 ((0 - p.x) * p.y) (pneg p) := by
  rw [zero_sub']
  exact rep_flat (pneg p)
set_option maxRecDepth 100000 in
set_option maxHeartbeats 1000000 in
theorem NegD_ok (p : Pt) (w : World) :
    Calls Try.prog 27 #[.agg (PB (pN p))] w fun e w' => e = .returned (.tuple #[.agg (PB (pN (pneg p))), .bool true]) ∧ Below w.heap.size w w' := by
  have HQ1 := Lib.hid (fun w => open_ok p w)
  obtain ⟨c2, hc2⟩ : ∃ zq : Fp, zq = 0 - p.x := ⟨_, rfl⟩
  have HE2 := Lib.hid hc2
  clear hc2
  have HQ3 := Lib.hid (fun w => WB.sub 0 p.x w)
  rw [← HE2.out] at HQ3
  obtain ⟨c4, hc4⟩ : ∃ zq : Fp, zq = c2 * p.y := ⟨_, rfl⟩
  have HE4 := Lib.hid hc4
  clear hc4
  have HQ5 := Lib.hid (fun w => flatP_any c2 p.y w)
  rw [← HE4.out] at HQ5
  obtain ⟨c6, hc6⟩ : ∃ zq : Fp, zq = c2 * finv 1 := ⟨_, rfl⟩
  have HE6 := Lib.hid hc6
  clear hc6
  obtain ⟨c7, hc7⟩ : ∃ zq : Fp, zq = p.y * finv 1 := ⟨_, rfl⟩
  have HE7 := Lib.hid hc7
  clear hc7
  have HQ8 := Lib.hid (fun w => packedP_any c2 p.y 1 c4 w)
  rw [← HE6.out, ← HE7.out] at HQ8
  have hz0 := zBy
  have hz1 := zPo
  have hz2 := zWo
  go_enter Try.func27, Try.ntmps27
  go_upto_region 1 with fail
  generalize hW1 : World.alloc _ _ = W1
  obtain ⟨N, hN⟩ : ∃ n, w.heap.size = n := ⟨_, rfl⟩
  have HX0 := Lib.hid (show CT W1 N 23 (PB (pN p)) by subst hW1; rw [← hN]; exact (allocs2_at w _ _).1)
  have HX1 := Lib.hid (show CT W1 (N + 1) 23 (PB 0) by subst hW1; rw [← hN]; exact (allocs2_at w _ _).2)
  have HB := Lib.hid (show Below N w W1 by subst hW1; rw [← hN]; exact allocs2_below w _ _)
  have HN := Lib.hid hN
  rw [hN]
  clear hW1 hN
  refine wp_region_seq 5 ?_
  simp only [List.take_succ_cons, List.take_zero, List.drop_succ_cons, List.drop_zero]
  refine upW_val (by rfl) (by rfl) (by rfl) (fun K hK => quiet_load_ct _ _ rfl N rfl 23 (PB (pN p)) 32 (PB_rw (pN p)) _ HX0.out Try.underlying23 rfl (by kernel_rfl) (hK _ ?_))
  simp only [Act.put, List.setIfInBounds_toArray, List.set]
  refine upW_call (by rfl) (by rfl) (.tuple #[.agg (WR p.x p.y 1 (p.x * p.y)), .bool true]) _ rfl (by simp) (fun p => ?_) ?_
  · go_big_quiet_op
    exact ⟨_, fun q => Calls.ext_of (HQ1.out q.x), rfl⟩
  simp only [Act.put, List.setIfInBounds_toArray, List.set]
  refine upW_val (by rfl) (by rfl) (by rfl) ?_
  intro K hK
  go_big_quiet_op
  refine hK _ ?_
  refine upW_late (by rfl) (.agg (WR p.x p.y 1 (p.x * p.y))) (fun _ => rfl) ?_
  simp only [Act.put, List.setIfInBounds_toArray, List.set]
  refine upW_late (by rfl) (.bool true) (fun _ => rfl) ?_
  simp only [Act.put, List.setIfInBounds_toArray, List.set]
  refine upW_nil (fun wr1 hbr1 => ?_)
  replace HX0 := Lib.hid (HX0.out.ext hbr1)
  replace HX1 := Lib.hid (HX1.out.ext hbr1)
  replace HB := Lib.hid (HB.out.trans (hbr1.mono (show N ≤ _ by have := HB.out.size; have := HN.out; omega)))
  clear hbr1
  refine wpList_new1 rfl 88 rfl (WR 0 0 0 0) zPo rfl _ _ rfl rfl (WR p.x p.y 1 (p.x * p.y)) 16 (WR_rw p.x p.y 1 (p.x * p.y)) (WR_rw 0 0 0 0).size (by kernel_rfl) rfl rfl (fun B2 wr2 hB2 hbr2 hCB2 => ?_)
  have HB2 := Lib.hid hCB2
  have hlB2X0 : N < B2 := by rw [← hB2]; exact HX0.out.lt
  have hlB2X1 : (N + 1) < B2 := by rw [← hB2]; exact HX1.out.lt
  have hNB2 : N ≤ B2 := by rw [← hB2]; have := HB.out.size; have := HN.out; omega
  clear hB2 hCB2
  simp only [Act.put, List.setIfInBounds_toArray, List.set]
  replace HX0 := Lib.hid (HX0.out.ext hbr2)
  replace HX1 := Lib.hid (HX1.out.ext hbr2)
  replace HB := Lib.hid (HB.out.trans (hbr2.mono (show N ≤ _ by have := HB.out.size; have := HN.out; omega)))
  clear hbr2
  go_upto_region 4 with fail
  refine wp_region_upT 8 _ (by kernel_rfl) (by kernel_rfl) rfl (by kernel_rfl) (fun _ _ dst _ _ h => by cases dst <;> exact h) ?_
  simp only [List.take_succ_cons, List.take_zero, List.drop_succ_cons, List.drop_zero]
  refine upW_late (by rfl) (.agg (WB 0)) (fun w => run_built _ _ _ _ rfl _ (by kernel_rfl) w) ?_
  simp only [Act.put, List.setIfInBounds_toArray, List.set]
  refine upW_late (by rfl) (.pointer (some ⟨B2, 0, none⟩)) (fun _ => by kernel_rfl) ?_
  simp only [Act.put, List.setIfInBounds_toArray, List.set]
  refine upW_val (by rfl) (by rfl) (by rfl) (fun K hK => quiet_load_part _ _ rfl B2 0 rfl 88 (WR p.x p.y 1 (p.x * p.y)) (WB p.x) 4 (WB_rw p.x) _ HB2.out (WR_0 p.x p.y 1 (p.x * p.y)) Try.underlying86 rfl (by kernel_rfl) (hK _ ?_))
  simp only [Act.put, List.setIfInBounds_toArray, List.set]
  refine upW_call (by rfl) (by rfl) (.agg (WB c2)) _ rfl (by simp) (fun p => ?_) ?_
  · go_big_quiet_op
    exact ⟨_, fun q => Calls.ext_of (HQ3.out q.x), rfl⟩
  simp only [Act.put, List.setIfInBounds_toArray, List.set]
  refine upW_late (by rfl) (.pointer (some ⟨B2, 4, none⟩)) (fun _ => by kernel_rfl) ?_
  simp only [Act.put, List.setIfInBounds_toArray, List.set]
  refine upW_val (by rfl) (by rfl) (by rfl) (fun K hK => quiet_load_part _ _ rfl B2 4 rfl 88 (WR p.x p.y 1 (p.x * p.y)) (WB p.y) 4 (WB_rw p.y) _ HB2.out (WR_1 p.x p.y 1 (p.x * p.y)) Try.underlying86 rfl (by kernel_rfl) (hK _ ?_))
  simp only [Act.put, List.setIfInBounds_toArray, List.set]
  refine upW_call (by rfl) (by rfl) (.agg (WR c2 p.y 1 c4)) _ rfl (by simp) (fun p => ?_) ?_
  · go_big_quiet_op
    exact ⟨_, fun q => Calls.ext_of (HQ5.out q.x), rfl⟩
  simp only [Act.put, List.setIfInBounds_toArray, List.set]
  refine upW_call (by rfl) (by rfl) (.agg (PB (encXY c6 c7))) _ rfl (by simp) (fun p => ?_) ?_
  · go_big_quiet_op
    exact ⟨_, fun q => Calls.ext_of (HQ8.out q.x), rfl⟩
  simp only [Act.put, List.setIfInBounds_toArray, List.set]
  refine upW_nil (fun wr3 hbr3 => ?_)
  replace HX0 := Lib.hid (HX0.out.ext hbr3)
  replace HX1 := Lib.hid (HX1.out.ext hbr3)
  replace HB2 := Lib.hid (HB2.out.ext hbr3)
  replace HB := Lib.hid (HB.out.trans (hbr3.mono (show N ≤ _ by have := HB.out.size; have := HN.out; omega)))
  clear hbr3
  refine wpList_store_ct rfl 23 _ _ rfl (N + 1) (PB (encXY c6 c7)) rfl rfl 23 (PB 0) 32 HX1.out (by kernel_rfl) (PB_rw 0) (PB_rw (encXY c6 c7)) rfl (fun wr4 hSwr4 hOwr4 hWwr4 => ?_)
  replace HX1 := Lib.hid hSwr4
  replace HB := Lib.hid (hWwr4 _ _ HB.out (by omega))
  replace HX0 := Lib.hid (HX0.out.other (hOwr4 _ (by omega)))
  replace HB2 := Lib.hid (HB2.out.other (hOwr4 _ (by omega)))
  clear hSwr4 hOwr4 hWwr4
  go_wp2
  refine bodyPost_ret (results_ct_slot (p := 2) (q := 3) (by rfl) _ _ (N + 1) 23 (PB (encXY c6 c7)) 32 _ (.bool true) (by rfl) HX1.out (PB_rw (encXY c6 c7)) Try.underlying23 rfl (by kernel_rfl) rfl) rfl ⟨congrArg (fun k => Ending.returned (.tuple #[.agg (PB k), .bool true])) (by simp only [HE2.out, HE4.out, HE6.out, HE7.out]; exact rep_point (neg_flat p)), by rw [HN.out]; exact HB.out⟩
set_option maxRecDepth 100000 in
set_option maxHeartbeats 1000000 in
theorem NegD_no (n : Nat) (hn : n < 115792089237316195423570985008687907853269984665640564039457584007913129639936) (gn : ∀ p : Pt, pN p ≠ n) (w : World) :
    Calls Try.prog 27 #[.agg (PB n)] w fun e w' => e = .returned (.tuple #[.agg (PB 0), .bool false]) ∧ Below w.heap.size w w' := by
  have HLn := Lib.hid hn
  have HNn := Lib.hid gn
  clear hn gn
  have HQ1 := Lib.hid (fun w => open_no n HLn.out HNn.out w)
  have hz0 := zBy
  have hz1 := zPo
  go_enter Try.func27, Try.ntmps27
  go_upto_region 1 with fail
  generalize hW1 : World.alloc _ _ = W1
  obtain ⟨N, hN⟩ : ∃ n, w.heap.size = n := ⟨_, rfl⟩
  have HX0 := Lib.hid (show CT W1 N 23 (PB n) by subst hW1; rw [← hN]; exact (allocs2_at w _ _).1)
  have HX1 := Lib.hid (show CT W1 (N + 1) 23 (PB 0) by subst hW1; rw [← hN]; exact (allocs2_at w _ _).2)
  have HB := Lib.hid (show Below N w W1 by subst hW1; rw [← hN]; exact allocs2_below w _ _)
  have HN := Lib.hid hN
  rw [hN]
  clear hW1 hN
  refine wp_region_seq 5 ?_
  simp only [List.take_succ_cons, List.take_zero, List.drop_succ_cons, List.drop_zero]
  refine upW_val (by rfl) (by rfl) (by rfl) (fun K hK => quiet_load_ct _ _ rfl N rfl 23 (PB n) 32 (PB_rw n) _ HX0.out Try.underlying23 rfl (by kernel_rfl) (hK _ ?_))
  simp only [Act.put, List.setIfInBounds_toArray, List.set]
  refine upW_call (by rfl) (by rfl) (.tuple #[.agg (WR 0 0 0 0), .bool false]) _ rfl (by simp) (fun p => ?_) ?_
  · go_big_quiet_op
    exact ⟨_, fun q => Calls.ext_of (HQ1.out q.x), rfl⟩
  simp only [Act.put, List.setIfInBounds_toArray, List.set]
  refine upW_val (by rfl) (by rfl) (by rfl) ?_
  intro K hK
  go_big_quiet_op
  refine hK _ ?_
  refine upW_late (by rfl) (.agg (WR 0 0 0 0)) (fun _ => rfl) ?_
  simp only [Act.put, List.setIfInBounds_toArray, List.set]
  refine upW_late (by rfl) (.bool false) (fun _ => rfl) ?_
  simp only [Act.put, List.setIfInBounds_toArray, List.set]
  refine upW_nil (fun wr1 hbr1 => ?_)
  replace HX0 := Lib.hid (HX0.out.ext hbr1)
  replace HX1 := Lib.hid (HX1.out.ext hbr1)
  replace HB := Lib.hid (HB.out.trans (hbr1.mono (show N ≤ _ by have := HB.out.size; have := HN.out; omega)))
  clear hbr1
  refine wpList_new1 rfl 88 rfl (WR 0 0 0 0) zPo rfl _ _ rfl rfl (WR 0 0 0 0) 16 (WR_rw 0 0 0 0) (WR_rw 0 0 0 0).size (by kernel_rfl) rfl rfl (fun B2 wr2 hB2 hbr2 hCB2 => ?_)
  have HB2 := Lib.hid hCB2
  have hlB2X0 : N < B2 := by rw [← hB2]; exact HX0.out.lt
  have hlB2X1 : (N + 1) < B2 := by rw [← hB2]; exact HX1.out.lt
  have hNB2 : N ≤ B2 := by rw [← hB2]; have := HB.out.size; have := HN.out; omega
  clear hB2 hCB2
  simp only [Act.put, List.setIfInBounds_toArray, List.set]
  replace HX0 := Lib.hid (HX0.out.ext hbr2)
  replace HX1 := Lib.hid (HX1.out.ext hbr2)
  replace HB := Lib.hid (HB.out.trans (hbr2.mono (show N ≤ _ by have := HB.out.size; have := HN.out; omega)))
  clear hbr2
  go_upto_region 3 with fail
  refine wp_region_seq 1 ?_
  simp only [List.take_succ_cons, List.take_zero, List.drop_succ_cons, List.drop_zero]
  refine upW_late (by rfl) (.agg (PB 0)) (fun w => run_built _ _ _ _ rfl _ (by kernel_rfl) w) ?_
  simp only [Act.put, List.setIfInBounds_toArray, List.set]
  refine upW_nil (fun wr3 hbr3 => ?_)
  replace HX0 := Lib.hid (HX0.out.ext hbr3)
  replace HX1 := Lib.hid (HX1.out.ext hbr3)
  replace HB2 := Lib.hid (HB2.out.ext hbr3)
  replace HB := Lib.hid (HB.out.trans (hbr3.mono (show N ≤ _ by have := HB.out.size; have := HN.out; omega)))
  clear hbr3
  refine wpList_store_ct rfl 23 _ _ rfl (N + 1) (PB 0) rfl rfl 23 (PB 0) 32 HX1.out (by kernel_rfl) (PB_rw 0) (PB_rw 0) rfl (fun wr4 hSwr4 hOwr4 hWwr4 => ?_)
  replace HX1 := Lib.hid hSwr4
  replace HB := Lib.hid (hWwr4 _ _ HB.out (by omega))
  replace HX0 := Lib.hid (HX0.out.other (hOwr4 _ (by omega)))
  replace HB2 := Lib.hid (HB2.out.other (hOwr4 _ (by omega)))
  clear hSwr4 hOwr4 hWwr4
  go_wp2
  refine bodyPost_ret (results_ct_slot (p := 2) (q := 3) (by rfl) _ _ (N + 1) 23 (PB 0) 32 _ (.bool false) (by rfl) HX1.out (PB_rw 0) Try.underlying23 rfl (by kernel_rfl) rfl) rfl ⟨by first | rfl | (rfl), by rw [HN.out]; exact HB.out⟩
set_option maxRecDepth 100000 in
set_option maxHeartbeats 1000000 in
theorem AddD_ok (p q : Pt) (w : World) :
    Calls Try.prog 26 #[.agg (PB (pN p)), .agg (PB (pN q))] w fun e w' => e = .returned (.tuple #[.agg (PB (pN (padd p q))), .bool true]) ∧ Below w.heap.size w w' := by
  have HQ1 := Lib.hid (fun w => open_ok p w)
  have HQ2 := Lib.hid (fun w => open_ok q w)
  obtain ⟨c3, hc3⟩ : ∃ zq : Fp, zq = (((p.y + p.x) * (q.y + q.x)) - ((p.y - p.x) * (q.y - q.x))) * ((1 * 1 + 1 * 1) - ((((p.x * p.y) * (q.x * q.y)) + ((p.x * p.y) * (q.x * q.y))) * cD)) := ⟨_, rfl⟩
  have HE3 := Lib.hid hc3
  clear hc3
  obtain ⟨c4, hc4⟩ : ∃ zq : Fp, zq = ((1 * 1 + 1 * 1) + ((((p.x * p.y) * (q.x * q.y)) + ((p.x * p.y) * (q.x * q.y))) * cD)) * (((p.y + p.x) * (q.y + q.x)) + ((p.y - p.x) * (q.y - q.x))) := ⟨_, rfl⟩
  have HE4 := Lib.hid hc4
  clear hc4
  obtain ⟨c5, hc5⟩ : ∃ zq : Fp, zq = ((1 * 1 + 1 * 1) - ((((p.x * p.y) * (q.x * q.y)) + ((p.x * p.y) * (q.x * q.y))) * cD)) * ((1 * 1 + 1 * 1) + ((((p.x * p.y) * (q.x * q.y)) + ((p.x * p.y) * (q.x * q.y))) * cD)) := ⟨_, rfl⟩
  have HE5 := Lib.hid hc5
  clear hc5
  obtain ⟨c6, hc6⟩ : ∃ zq : Fp, zq = (((p.y + p.x) * (q.y + q.x)) - ((p.y - p.x) * (q.y - q.x))) * (((p.y + p.x) * (q.y + q.x)) + ((p.y - p.x) * (q.y - q.x))) := ⟨_, rfl⟩
  have HE6 := Lib.hid hc6
  clear hc6
  have HQ7 := Lib.hid (fun w => sumP_any p.x p.y 1 (p.x * p.y) q.x q.y 1 (q.x * q.y) w)
  rw [← HE3.out, ← HE4.out, ← HE5.out, ← HE6.out] at HQ7
  obtain ⟨c8, hc8⟩ : ∃ zq : Fp, zq = c3 * finv c5 := ⟨_, rfl⟩
  have HE8 := Lib.hid hc8
  clear hc8
  obtain ⟨c9, hc9⟩ : ∃ zq : Fp, zq = c4 * finv c5 := ⟨_, rfl⟩
  have HE9 := Lib.hid hc9
  clear hc9
  have HQ10 := Lib.hid (fun w => packedP_any c3 c4 c5 c6 w)
  rw [← HE8.out, ← HE9.out] at HQ10
  have hz0 := zBy
  have hz1 := zPo
  go_enter Try.func26, Try.ntmps26
  go_upto_region 1 with fail
  generalize hW1 : World.alloc _ _ = W1
  obtain ⟨N, hN⟩ : ∃ n, w.heap.size = n := ⟨_, rfl⟩
  have HX0 := Lib.hid (show CT W1 N 23 (PB (pN p)) by subst hW1; rw [← hN]; exact (allocs3_at w _ _ _).1)
  have HX1 := Lib.hid (show CT W1 (N + 1) 23 (PB (pN q)) by subst hW1; rw [← hN]; exact (allocs3_at w _ _ _).2.1)
  have HX2 := Lib.hid (show CT W1 (N + 1 + 1) 23 (PB 0) by subst hW1; rw [← hN]; exact (allocs3_at w _ _ _).2.2)
  have HB := Lib.hid (show Below N w W1 by subst hW1; rw [← hN]; exact allocs3_below w _ _ _)
  have HN := Lib.hid hN
  rw [hN]
  clear hW1 hN
  refine wp_region_seq 5 ?_
  simp only [List.take_succ_cons, List.take_zero, List.drop_succ_cons, List.drop_zero]
  refine upW_val (by rfl) (by rfl) (by rfl) (fun K hK => quiet_load_ct _ _ rfl N rfl 23 (PB (pN p)) 32 (PB_rw (pN p)) _ HX0.out Try.underlying23 rfl (by kernel_rfl) (hK _ ?_))
  simp only [Act.put, List.setIfInBounds_toArray, List.set]
  refine upW_call (by rfl) (by rfl) (.tuple #[.agg (WR p.x p.y 1 (p.x * p.y)), .bool true]) _ rfl (by simp) (fun p => ?_) ?_
  · go_big_quiet_op
    exact ⟨_, fun q => Calls.ext_of (HQ1.out q.x), rfl⟩
  simp only [Act.put, List.setIfInBounds_toArray, List.set]
  refine upW_val (by rfl) (by rfl) (by rfl) ?_
  intro K hK
  go_big_quiet_op
  refine hK _ ?_
  refine upW_late (by rfl) (.agg (WR p.x p.y 1 (p.x * p.y))) (fun _ => rfl) ?_
  simp only [Act.put, List.setIfInBounds_toArray, List.set]
  refine upW_late (by rfl) (.bool true) (fun _ => rfl) ?_
  simp only [Act.put, List.setIfInBounds_toArray, List.set]
  refine upW_nil (fun wr1 hbr1 => ?_)
  replace HX0 := Lib.hid (HX0.out.ext hbr1)
  replace HX1 := Lib.hid (HX1.out.ext hbr1)
  replace HX2 := Lib.hid (HX2.out.ext hbr1)
  replace HB := Lib.hid (HB.out.trans (hbr1.mono (show N ≤ _ by have := HB.out.size; have := HN.out; omega)))
  clear hbr1
  refine wpList_new1 rfl 88 rfl (WR 0 0 0 0) zPo rfl _ _ rfl rfl (WR p.x p.y 1 (p.x * p.y)) 16 (WR_rw p.x p.y 1 (p.x * p.y)) (WR_rw 0 0 0 0).size (by kernel_rfl) rfl rfl (fun B2 wr2 hB2 hbr2 hCB2 => ?_)
  have HB2 := Lib.hid hCB2
  have hlB2X0 : N < B2 := by rw [← hB2]; exact HX0.out.lt
  have hlB2X1 : (N + 1) < B2 := by rw [← hB2]; exact HX1.out.lt
  have hlB2X2 : (N + 1 + 1) < B2 := by rw [← hB2]; exact HX2.out.lt
  have hNB2 : N ≤ B2 := by rw [← hB2]; have := HB.out.size; have := HN.out; omega
  clear hB2 hCB2
  simp only [Act.put, List.setIfInBounds_toArray, List.set]
  replace HX0 := Lib.hid (HX0.out.ext hbr2)
  replace HX1 := Lib.hid (HX1.out.ext hbr2)
  replace HX2 := Lib.hid (HX2.out.ext hbr2)
  replace HB := Lib.hid (HB.out.trans (hbr2.mono (show N ≤ _ by have := HB.out.size; have := HN.out; omega)))
  clear hbr2
  go_upto_region 2 with fail
  refine wp_region_seq 5 ?_
  simp only [List.take_succ_cons, List.take_zero, List.drop_succ_cons, List.drop_zero]
  refine upW_val (by rfl) (by rfl) (by rfl) (fun K hK => quiet_load_ct _ _ rfl (N + 1) rfl 23 (PB (pN q)) 32 (PB_rw (pN q)) _ HX1.out Try.underlying23 rfl (by kernel_rfl) (hK _ ?_))
  simp only [Act.put, List.setIfInBounds_toArray, List.set]
  refine upW_call (by rfl) (by rfl) (.tuple #[.agg (WR q.x q.y 1 (q.x * q.y)), .bool true]) _ rfl (by simp) (fun p => ?_) ?_
  · go_big_quiet_op
    exact ⟨_, fun q => Calls.ext_of (HQ2.out q.x), rfl⟩
  simp only [Act.put, List.setIfInBounds_toArray, List.set]
  refine upW_val (by rfl) (by rfl) (by rfl) ?_
  intro K hK
  go_big_quiet_op
  refine hK _ ?_
  refine upW_late (by rfl) (.agg (WR q.x q.y 1 (q.x * q.y))) (fun _ => rfl) ?_
  simp only [Act.put, List.setIfInBounds_toArray, List.set]
  refine upW_late (by rfl) (.bool true) (fun _ => rfl) ?_
  simp only [Act.put, List.setIfInBounds_toArray, List.set]
  refine upW_nil (fun wr3 hbr3 => ?_)
  replace HX0 := Lib.hid (HX0.out.ext hbr3)
  replace HX1 := Lib.hid (HX1.out.ext hbr3)
  replace HX2 := Lib.hid (HX2.out.ext hbr3)
  replace HB2 := Lib.hid (HB2.out.ext hbr3)
  replace HB := Lib.hid (HB.out.trans (hbr3.mono (show N ≤ _ by have := HB.out.size; have := HN.out; omega)))
  clear hbr3
  refine wpList_new1 rfl 88 rfl (WR 0 0 0 0) zPo rfl _ _ rfl rfl (WR q.x q.y 1 (q.x * q.y)) 16 (WR_rw q.x q.y 1 (q.x * q.y)) (WR_rw 0 0 0 0).size (by kernel_rfl) rfl rfl (fun B4 wr4 hB4 hbr4 hCB4 => ?_)
  have HB4 := Lib.hid hCB4
  have hlB4X0 : N < B4 := by rw [← hB4]; exact HX0.out.lt
  have hlB4X1 : (N + 1) < B4 := by rw [← hB4]; exact HX1.out.lt
  have hlB4X2 : (N + 1 + 1) < B4 := by rw [← hB4]; exact HX2.out.lt
  have hlB4B2 : B2 < B4 := by rw [← hB4]; exact HB2.out.lt
  have hNB4 : N ≤ B4 := by rw [← hB4]; have := HB.out.size; have := HN.out; omega
  clear hB4 hCB4
  simp only [Act.put, List.setIfInBounds_toArray, List.set]
  replace HX0 := Lib.hid (HX0.out.ext hbr4)
  replace HX1 := Lib.hid (HX1.out.ext hbr4)
  replace HX2 := Lib.hid (HX2.out.ext hbr4)
  replace HB2 := Lib.hid (HB2.out.ext hbr4)
  replace HB := Lib.hid (HB.out.trans (hbr4.mono (show N ≤ _ by have := HB.out.size; have := HN.out; omega)))
  clear hbr4
  go_upto_region 5 with fail
  refine wp_region_seq 4 ?_
  simp only [List.take_succ_cons, List.take_zero, List.drop_succ_cons, List.drop_zero]
  refine upW_val (by rfl) (by rfl) (by rfl) (fun K hK => quiet_load_ct _ _ rfl B2 rfl 88 (WR p.x p.y 1 (p.x * p.y)) 16 (WR_rw p.x p.y 1 (p.x * p.y)) _ HB2.out Try.underlying88 rfl (by kernel_rfl) (hK _ ?_))
  simp only [Act.put, List.setIfInBounds_toArray, List.set]
  refine upW_val (by rfl) (by rfl) (by rfl) (fun K hK => quiet_load_ct _ _ rfl B4 rfl 88 (WR q.x q.y 1 (q.x * q.y)) 16 (WR_rw q.x q.y 1 (q.x * q.y)) _ HB4.out Try.underlying88 rfl (by kernel_rfl) (hK _ ?_))
  simp only [Act.put, List.setIfInBounds_toArray, List.set]
  refine upW_call (by rfl) (by rfl) (.agg (WR c3 c4 c5 c6)) _ rfl (by simp) (fun p => ?_) ?_
  · go_big_quiet_op
    exact ⟨_, fun q => Calls.ext_of (HQ7.out q.x), rfl⟩
  simp only [Act.put, List.setIfInBounds_toArray, List.set]
  refine upW_call (by rfl) (by rfl) (.agg (PB (encXY c8 c9))) _ rfl (by simp) (fun p => ?_) ?_
  · go_big_quiet_op
    exact ⟨_, fun q => Calls.ext_of (HQ10.out q.x), rfl⟩
  simp only [Act.put, List.setIfInBounds_toArray, List.set]
  refine upW_nil (fun wr5 hbr5 => ?_)
  replace HX0 := Lib.hid (HX0.out.ext hbr5)
  replace HX1 := Lib.hid (HX1.out.ext hbr5)
  replace HX2 := Lib.hid (HX2.out.ext hbr5)
  replace HB2 := Lib.hid (HB2.out.ext hbr5)
  replace HB4 := Lib.hid (HB4.out.ext hbr5)
  replace HB := Lib.hid (HB.out.trans (hbr5.mono (show N ≤ _ by have := HB.out.size; have := HN.out; omega)))
  clear hbr5
  refine wpList_store_ct rfl 23 _ _ rfl (N + 1 + 1) (PB (encXY c8 c9)) rfl rfl 23 (PB 0) 32 HX2.out (by kernel_rfl) (PB_rw 0) (PB_rw (encXY c8 c9)) rfl (fun wr6 hSwr6 hOwr6 hWwr6 => ?_)
  replace HX2 := Lib.hid hSwr6
  replace HB := Lib.hid (hWwr6 _ _ HB.out (by omega))
  replace HX0 := Lib.hid (HX0.out.other (hOwr6 _ (by omega)))
  replace HX1 := Lib.hid (HX1.out.other (hOwr6 _ (by omega)))
  replace HB2 := Lib.hid (HB2.out.other (hOwr6 _ (by omega)))
  replace HB4 := Lib.hid (HB4.out.other (hOwr6 _ (by omega)))
  clear hSwr6 hOwr6 hWwr6
  go_wp2
  refine bodyPost_ret (results_ct_slot (p := 4) (q := 5) (by rfl) _ _ (N + 1 + 1) 23 (PB (encXY c8 c9)) 32 _ (.bool true) (by rfl) HX2.out (PB_rw (encXY c8 c9)) Try.underlying23 rfl (by kernel_rfl) rfl) rfl ⟨congrArg (fun k => Ending.returned (.tuple #[.agg (PB k), .bool true])) (by simp only [HE3.out, HE4.out, HE5.out, HE6.out, HE8.out, HE9.out]; exact rep_point (sumP_rep (rep_flat p) (rep_flat q))), by rw [HN.out]; exact HB.out⟩
set_option maxRecDepth 100000 in
set_option maxHeartbeats 1000000 in
theorem AddD_nn (n : Nat) (hn : n < 115792089237316195423570985008687907853269984665640564039457584007913129639936) (gn : ∀ p : Pt, pN p ≠ n) (m : Nat) (hm : m < 115792089237316195423570985008687907853269984665640564039457584007913129639936) (gm : ∀ p : Pt, pN p ≠ m) (w : World) :
    Calls Try.prog 26 #[.agg (PB n), .agg (PB m)] w fun e w' => e = .returned (.tuple #[.agg (PB 0), .bool false]) ∧ Below w.heap.size w w' := by
  have HLn := Lib.hid hn
  have HNn := Lib.hid gn
  clear hn gn
  have HLm := Lib.hid hm
  have HNm := Lib.hid gm
  clear hm gm
  have HQ1 := Lib.hid (fun w => open_no n HLn.out HNn.out w)
  have HQ2 := Lib.hid (fun w => open_no m HLm.out HNm.out w)
  have hz0 := zBy
  have hz1 := zPo
  go_enter Try.func26, Try.ntmps26
  go_upto_region 1 with fail
  generalize hW1 : World.alloc _ _ = W1
  obtain ⟨N, hN⟩ : ∃ n, w.heap.size = n := ⟨_, rfl⟩
  have HX0 := Lib.hid (show CT W1 N 23 (PB n) by subst hW1; rw [← hN]; exact (allocs3_at w _ _ _).1)
  have HX1 := Lib.hid (show CT W1 (N + 1) 23 (PB m) by subst hW1; rw [← hN]; exact (allocs3_at w _ _ _).2.1)
  have HX2 := Lib.hid (show CT W1 (N + 1 + 1) 23 (PB 0) by subst hW1; rw [← hN]; exact (allocs3_at w _ _ _).2.2)
  have HB := Lib.hid (show Below N w W1 by subst hW1; rw [← hN]; exact allocs3_below w _ _ _)
  have HN := Lib.hid hN
  rw [hN]
  clear hW1 hN
  refine wp_region_seq 5 ?_
  simp only [List.take_succ_cons, List.take_zero, List.drop_succ_cons, List.drop_zero]
  refine upW_val (by rfl) (by rfl) (by rfl) (fun K hK => quiet_load_ct _ _ rfl N rfl 23 (PB n) 32 (PB_rw n) _ HX0.out Try.underlying23 rfl (by kernel_rfl) (hK _ ?_))
  simp only [Act.put, List.setIfInBounds_toArray, List.set]
  refine upW_call (by rfl) (by rfl) (.tuple #[.agg (WR 0 0 0 0), .bool false]) _ rfl (by simp) (fun p => ?_) ?_
  · go_big_quiet_op
    exact ⟨_, fun q => Calls.ext_of (HQ1.out q.x), rfl⟩
  simp only [Act.put, List.setIfInBounds_toArray, List.set]
  refine upW_val (by rfl) (by rfl) (by rfl) ?_
  intro K hK
  go_big_quiet_op
  refine hK _ ?_
  refine upW_late (by rfl) (.agg (WR 0 0 0 0)) (fun _ => rfl) ?_
  simp only [Act.put, List.setIfInBounds_toArray, List.set]
  refine upW_late (by rfl) (.bool false) (fun _ => rfl) ?_
  simp only [Act.put, List.setIfInBounds_toArray, List.set]
  refine upW_nil (fun wr1 hbr1 => ?_)
  replace HX0 := Lib.hid (HX0.out.ext hbr1)
  replace HX1 := Lib.hid (HX1.out.ext hbr1)
  replace HX2 := Lib.hid (HX2.out.ext hbr1)
  replace HB := Lib.hid (HB.out.trans (hbr1.mono (show N ≤ _ by have := HB.out.size; have := HN.out; omega)))
  clear hbr1
  refine wpList_new1 rfl 88 rfl (WR 0 0 0 0) zPo rfl _ _ rfl rfl (WR 0 0 0 0) 16 (WR_rw 0 0 0 0) (WR_rw 0 0 0 0).size (by kernel_rfl) rfl rfl (fun B2 wr2 hB2 hbr2 hCB2 => ?_)
  have HB2 := Lib.hid hCB2
  have hlB2X0 : N < B2 := by rw [← hB2]; exact HX0.out.lt
  have hlB2X1 : (N + 1) < B2 := by rw [← hB2]; exact HX1.out.lt
  have hlB2X2 : (N + 1 + 1) < B2 := by rw [← hB2]; exact HX2.out.lt
  have hNB2 : N ≤ B2 := by rw [← hB2]; have := HB.out.size; have := HN.out; omega
  clear hB2 hCB2
  simp only [Act.put, List.setIfInBounds_toArray, List.set]
  replace HX0 := Lib.hid (HX0.out.ext hbr2)
  replace HX1 := Lib.hid (HX1.out.ext hbr2)
  replace HX2 := Lib.hid (HX2.out.ext hbr2)
  replace HB := Lib.hid (HB.out.trans (hbr2.mono (show N ≤ _ by have := HB.out.size; have := HN.out; omega)))
  clear hbr2
  go_upto_region 2 with fail
  refine wp_region_seq 5 ?_
  simp only [List.take_succ_cons, List.take_zero, List.drop_succ_cons, List.drop_zero]
  refine upW_val (by rfl) (by rfl) (by rfl) (fun K hK => quiet_load_ct _ _ rfl (N + 1) rfl 23 (PB m) 32 (PB_rw m) _ HX1.out Try.underlying23 rfl (by kernel_rfl) (hK _ ?_))
  simp only [Act.put, List.setIfInBounds_toArray, List.set]
  refine upW_call (by rfl) (by rfl) (.tuple #[.agg (WR 0 0 0 0), .bool false]) _ rfl (by simp) (fun p => ?_) ?_
  · go_big_quiet_op
    exact ⟨_, fun q => Calls.ext_of (HQ2.out q.x), rfl⟩
  simp only [Act.put, List.setIfInBounds_toArray, List.set]
  refine upW_val (by rfl) (by rfl) (by rfl) ?_
  intro K hK
  go_big_quiet_op
  refine hK _ ?_
  refine upW_late (by rfl) (.agg (WR 0 0 0 0)) (fun _ => rfl) ?_
  simp only [Act.put, List.setIfInBounds_toArray, List.set]
  refine upW_late (by rfl) (.bool false) (fun _ => rfl) ?_
  simp only [Act.put, List.setIfInBounds_toArray, List.set]
  refine upW_nil (fun wr3 hbr3 => ?_)
  replace HX0 := Lib.hid (HX0.out.ext hbr3)
  replace HX1 := Lib.hid (HX1.out.ext hbr3)
  replace HX2 := Lib.hid (HX2.out.ext hbr3)
  replace HB2 := Lib.hid (HB2.out.ext hbr3)
  replace HB := Lib.hid (HB.out.trans (hbr3.mono (show N ≤ _ by have := HB.out.size; have := HN.out; omega)))
  clear hbr3
  refine wpList_new1 rfl 88 rfl (WR 0 0 0 0) zPo rfl _ _ rfl rfl (WR 0 0 0 0) 16 (WR_rw 0 0 0 0) (WR_rw 0 0 0 0).size (by kernel_rfl) rfl rfl (fun B4 wr4 hB4 hbr4 hCB4 => ?_)
  have HB4 := Lib.hid hCB4
  have hlB4X0 : N < B4 := by rw [← hB4]; exact HX0.out.lt
  have hlB4X1 : (N + 1) < B4 := by rw [← hB4]; exact HX1.out.lt
  have hlB4X2 : (N + 1 + 1) < B4 := by rw [← hB4]; exact HX2.out.lt
  have hlB4B2 : B2 < B4 := by rw [← hB4]; exact HB2.out.lt
  have hNB4 : N ≤ B4 := by rw [← hB4]; have := HB.out.size; have := HN.out; omega
  clear hB4 hCB4
  simp only [Act.put, List.setIfInBounds_toArray, List.set]
  replace HX0 := Lib.hid (HX0.out.ext hbr4)
  replace HX1 := Lib.hid (HX1.out.ext hbr4)
  replace HX2 := Lib.hid (HX2.out.ext hbr4)
  replace HB2 := Lib.hid (HB2.out.ext hbr4)
  replace HB := Lib.hid (HB.out.trans (hbr4.mono (show N ≤ _ by have := HB.out.size; have := HN.out; omega)))
  clear hbr4
  go_upto_region 4 with fail
  refine wp_region_seq 1 ?_
  simp only [List.take_succ_cons, List.take_zero, List.drop_succ_cons, List.drop_zero]
  refine upW_late (by rfl) (.agg (PB 0)) (fun w => run_built _ _ _ _ rfl _ (by kernel_rfl) w) ?_
  simp only [Act.put, List.setIfInBounds_toArray, List.set]
  refine upW_nil (fun wr5 hbr5 => ?_)
  replace HX0 := Lib.hid (HX0.out.ext hbr5)
  replace HX1 := Lib.hid (HX1.out.ext hbr5)
  replace HX2 := Lib.hid (HX2.out.ext hbr5)
  replace HB2 := Lib.hid (HB2.out.ext hbr5)
  replace HB4 := Lib.hid (HB4.out.ext hbr5)
  replace HB := Lib.hid (HB.out.trans (hbr5.mono (show N ≤ _ by have := HB.out.size; have := HN.out; omega)))
  clear hbr5
  refine wpList_store_ct rfl 23 _ _ rfl (N + 1 + 1) (PB 0) rfl rfl 23 (PB 0) 32 HX2.out (by kernel_rfl) (PB_rw 0) (PB_rw 0) rfl (fun wr6 hSwr6 hOwr6 hWwr6 => ?_)
  replace HX2 := Lib.hid hSwr6
  replace HB := Lib.hid (hWwr6 _ _ HB.out (by omega))
  replace HX0 := Lib.hid (HX0.out.other (hOwr6 _ (by omega)))
  replace HX1 := Lib.hid (HX1.out.other (hOwr6 _ (by omega)))
  replace HB2 := Lib.hid (HB2.out.other (hOwr6 _ (by omega)))
  replace HB4 := Lib.hid (HB4.out.other (hOwr6 _ (by omega)))
  clear hSwr6 hOwr6 hWwr6
  go_wp2
  refine bodyPost_ret (results_ct_slot (p := 4) (q := 5) (by rfl) _ _ (N + 1 + 1) 23 (PB 0) 32 _ (.bool false) (by rfl) HX2.out (PB_rw 0) Try.underlying23 rfl (by kernel_rfl) rfl) rfl ⟨by first | rfl | (rfl), by rw [HN.out]; exact HB.out⟩
set_option maxRecDepth 100000 in
set_option maxHeartbeats 1000000 in
theorem AddD_ny (n : Nat) (hn : n < 115792089237316195423570985008687907853269984665640564039457584007913129639936) (gn : ∀ p : Pt, pN p ≠ n) (q : Pt) (w : World) :
    Calls Try.prog 26 #[.agg (PB n), .agg (PB (pN q))] w fun e w' => e = .returned (.tuple #[.agg (PB 0), .bool false]) ∧ Below w.heap.size w w' := by
  have HLn := Lib.hid hn
  have HNn := Lib.hid gn
  clear hn gn
  have HQ1 := Lib.hid (fun w => open_no n HLn.out HNn.out w)
  have HQ2 := Lib.hid (fun w => open_ok q w)
  have hz0 := zBy
  have hz1 := zPo
  go_enter Try.func26, Try.ntmps26
  go_upto_region 1 with fail
  generalize hW1 : World.alloc _ _ = W1
  obtain ⟨N, hN⟩ : ∃ n, w.heap.size = n := ⟨_, rfl⟩
  have HX0 := Lib.hid (show CT W1 N 23 (PB n) by subst hW1; rw [← hN]; exact (allocs3_at w _ _ _).1)
  have HX1 := Lib.hid (show CT W1 (N + 1) 23 (PB (pN q)) by subst hW1; rw [← hN]; exact (allocs3_at w _ _ _).2.1)
  have HX2 := Lib.hid (show CT W1 (N + 1 + 1) 23 (PB 0) by subst hW1; rw [← hN]; exact (allocs3_at w _ _ _).2.2)
  have HB := Lib.hid (show Below N w W1 by subst hW1; rw [← hN]; exact allocs3_below w _ _ _)
  have HN := Lib.hid hN
  rw [hN]
  clear hW1 hN
  refine wp_region_seq 5 ?_
  simp only [List.take_succ_cons, List.take_zero, List.drop_succ_cons, List.drop_zero]
  refine upW_val (by rfl) (by rfl) (by rfl) (fun K hK => quiet_load_ct _ _ rfl N rfl 23 (PB n) 32 (PB_rw n) _ HX0.out Try.underlying23 rfl (by kernel_rfl) (hK _ ?_))
  simp only [Act.put, List.setIfInBounds_toArray, List.set]
  refine upW_call (by rfl) (by rfl) (.tuple #[.agg (WR 0 0 0 0), .bool false]) _ rfl (by simp) (fun p => ?_) ?_
  · go_big_quiet_op
    exact ⟨_, fun q => Calls.ext_of (HQ1.out q.x), rfl⟩
  simp only [Act.put, List.setIfInBounds_toArray, List.set]
  refine upW_val (by rfl) (by rfl) (by rfl) ?_
  intro K hK
  go_big_quiet_op
  refine hK _ ?_
  refine upW_late (by rfl) (.agg (WR 0 0 0 0)) (fun _ => rfl) ?_
  simp only [Act.put, List.setIfInBounds_toArray, List.set]
  refine upW_late (by rfl) (.bool false) (fun _ => rfl) ?_
  simp only [Act.put, List.setIfInBounds_toArray, List.set]
  refine upW_nil (fun wr1 hbr1 => ?_)
  replace HX0 := Lib.hid (HX0.out.ext hbr1)
  replace HX1 := Lib.hid (HX1.out.ext hbr1)
  replace HX2 := Lib.hid (HX2.out.ext hbr1)
  replace HB := Lib.hid (HB.out.trans (hbr1.mono (show N ≤ _ by have := HB.out.size; have := HN.out; omega)))
  clear hbr1
  refine wpList_new1 rfl 88 rfl (WR 0 0 0 0) zPo rfl _ _ rfl rfl (WR 0 0 0 0) 16 (WR_rw 0 0 0 0) (WR_rw 0 0 0 0).size (by kernel_rfl) rfl rfl (fun B2 wr2 hB2 hbr2 hCB2 => ?_)
  have HB2 := Lib.hid hCB2
  have hlB2X0 : N < B2 := by rw [← hB2]; exact HX0.out.lt
  have hlB2X1 : (N + 1) < B2 := by rw [← hB2]; exact HX1.out.lt
  have hlB2X2 : (N + 1 + 1) < B2 := by rw [← hB2]; exact HX2.out.lt
  have hNB2 : N ≤ B2 := by rw [← hB2]; have := HB.out.size; have := HN.out; omega
  clear hB2 hCB2
  simp only [Act.put, List.setIfInBounds_toArray, List.set]
  replace HX0 := Lib.hid (HX0.out.ext hbr2)
  replace HX1 := Lib.hid (HX1.out.ext hbr2)
  replace HX2 := Lib.hid (HX2.out.ext hbr2)
  replace HB := Lib.hid (HB.out.trans (hbr2.mono (show N ≤ _ by have := HB.out.size; have := HN.out; omega)))
  clear hbr2
  go_upto_region 2 with fail
  refine wp_region_seq 5 ?_
  simp only [List.take_succ_cons, List.take_zero, List.drop_succ_cons, List.drop_zero]
  refine upW_val (by rfl) (by rfl) (by rfl) (fun K hK => quiet_load_ct _ _ rfl (N + 1) rfl 23 (PB (pN q)) 32 (PB_rw (pN q)) _ HX1.out Try.underlying23 rfl (by kernel_rfl) (hK _ ?_))
  simp only [Act.put, List.setIfInBounds_toArray, List.set]
  refine upW_call (by rfl) (by rfl) (.tuple #[.agg (WR q.x q.y 1 (q.x * q.y)), .bool true]) _ rfl (by simp) (fun p => ?_) ?_
  · go_big_quiet_op
    exact ⟨_, fun q => Calls.ext_of (HQ2.out q.x), rfl⟩
  simp only [Act.put, List.setIfInBounds_toArray, List.set]
  refine upW_val (by rfl) (by rfl) (by rfl) ?_
  intro K hK
  go_big_quiet_op
  refine hK _ ?_
  refine upW_late (by rfl) (.agg (WR q.x q.y 1 (q.x * q.y))) (fun _ => rfl) ?_
  simp only [Act.put, List.setIfInBounds_toArray, List.set]
  refine upW_late (by rfl) (.bool true) (fun _ => rfl) ?_
  simp only [Act.put, List.setIfInBounds_toArray, List.set]
  refine upW_nil (fun wr3 hbr3 => ?_)
  replace HX0 := Lib.hid (HX0.out.ext hbr3)
  replace HX1 := Lib.hid (HX1.out.ext hbr3)
  replace HX2 := Lib.hid (HX2.out.ext hbr3)
  replace HB2 := Lib.hid (HB2.out.ext hbr3)
  replace HB := Lib.hid (HB.out.trans (hbr3.mono (show N ≤ _ by have := HB.out.size; have := HN.out; omega)))
  clear hbr3
  refine wpList_new1 rfl 88 rfl (WR 0 0 0 0) zPo rfl _ _ rfl rfl (WR q.x q.y 1 (q.x * q.y)) 16 (WR_rw q.x q.y 1 (q.x * q.y)) (WR_rw 0 0 0 0).size (by kernel_rfl) rfl rfl (fun B4 wr4 hB4 hbr4 hCB4 => ?_)
  have HB4 := Lib.hid hCB4
  have hlB4X0 : N < B4 := by rw [← hB4]; exact HX0.out.lt
  have hlB4X1 : (N + 1) < B4 := by rw [← hB4]; exact HX1.out.lt
  have hlB4X2 : (N + 1 + 1) < B4 := by rw [← hB4]; exact HX2.out.lt
  have hlB4B2 : B2 < B4 := by rw [← hB4]; exact HB2.out.lt
  have hNB4 : N ≤ B4 := by rw [← hB4]; have := HB.out.size; have := HN.out; omega
  clear hB4 hCB4
  simp only [Act.put, List.setIfInBounds_toArray, List.set]
  replace HX0 := Lib.hid (HX0.out.ext hbr4)
  replace HX1 := Lib.hid (HX1.out.ext hbr4)
  replace HX2 := Lib.hid (HX2.out.ext hbr4)
  replace HB2 := Lib.hid (HB2.out.ext hbr4)
  replace HB := Lib.hid (HB.out.trans (hbr4.mono (show N ≤ _ by have := HB.out.size; have := HN.out; omega)))
  clear hbr4
  go_upto_region 4 with fail
  refine wp_region_seq 1 ?_
  simp only [List.take_succ_cons, List.take_zero, List.drop_succ_cons, List.drop_zero]
  refine upW_late (by rfl) (.agg (PB 0)) (fun w => run_built _ _ _ _ rfl _ (by kernel_rfl) w) ?_
  simp only [Act.put, List.setIfInBounds_toArray, List.set]
  refine upW_nil (fun wr5 hbr5 => ?_)
  replace HX0 := Lib.hid (HX0.out.ext hbr5)
  replace HX1 := Lib.hid (HX1.out.ext hbr5)
  replace HX2 := Lib.hid (HX2.out.ext hbr5)
  replace HB2 := Lib.hid (HB2.out.ext hbr5)
  replace HB4 := Lib.hid (HB4.out.ext hbr5)
  replace HB := Lib.hid (HB.out.trans (hbr5.mono (show N ≤ _ by have := HB.out.size; have := HN.out; omega)))
  clear hbr5
  refine wpList_store_ct rfl 23 _ _ rfl (N + 1 + 1) (PB 0) rfl rfl 23 (PB 0) 32 HX2.out (by kernel_rfl) (PB_rw 0) (PB_rw 0) rfl (fun wr6 hSwr6 hOwr6 hWwr6 => ?_)
  replace HX2 := Lib.hid hSwr6
  replace HB := Lib.hid (hWwr6 _ _ HB.out (by omega))
  replace HX0 := Lib.hid (HX0.out.other (hOwr6 _ (by omega)))
  replace HX1 := Lib.hid (HX1.out.other (hOwr6 _ (by omega)))
  replace HB2 := Lib.hid (HB2.out.other (hOwr6 _ (by omega)))
  replace HB4 := Lib.hid (HB4.out.other (hOwr6 _ (by omega)))
  clear hSwr6 hOwr6 hWwr6
  go_wp2
  refine bodyPost_ret (results_ct_slot (p := 4) (q := 5) (by rfl) _ _ (N + 1 + 1) 23 (PB 0) 32 _ (.bool false) (by rfl) HX2.out (PB_rw 0) Try.underlying23 rfl (by kernel_rfl) rfl) rfl ⟨by first | rfl | (rfl), by rw [HN.out]; exact HB.out⟩
set_option maxRecDepth 100000 in
set_option maxHeartbeats 1000000 in
theorem AddD_yn (p : Pt) (n : Nat) (hn : n < 115792089237316195423570985008687907853269984665640564039457584007913129639936) (gn : ∀ p : Pt, pN p ≠ n) (w : World) :
    Calls Try.prog 26 #[.agg (PB (pN p)), .agg (PB n)] w fun e w' => e = .returned (.tuple #[.agg (PB 0), .bool false]) ∧ Below w.heap.size w w' := by
  have HLn := Lib.hid hn
  have HNn := Lib.hid gn
  clear hn gn
  have HQ1 := Lib.hid (fun w => open_ok p w)
  have HQ2 := Lib.hid (fun w => open_no n HLn.out HNn.out w)
  have hz0 := zBy
  have hz1 := zPo
  go_enter Try.func26, Try.ntmps26
  go_upto_region 1 with fail
  generalize hW1 : World.alloc _ _ = W1
  obtain ⟨N, hN⟩ : ∃ n, w.heap.size = n := ⟨_, rfl⟩
  have HX0 := Lib.hid (show CT W1 N 23 (PB (pN p)) by subst hW1; rw [← hN]; exact (allocs3_at w _ _ _).1)
  have HX1 := Lib.hid (show CT W1 (N + 1) 23 (PB n) by subst hW1; rw [← hN]; exact (allocs3_at w _ _ _).2.1)
  have HX2 := Lib.hid (show CT W1 (N + 1 + 1) 23 (PB 0) by subst hW1; rw [← hN]; exact (allocs3_at w _ _ _).2.2)
  have HB := Lib.hid (show Below N w W1 by subst hW1; rw [← hN]; exact allocs3_below w _ _ _)
  have HN := Lib.hid hN
  rw [hN]
  clear hW1 hN
  refine wp_region_seq 5 ?_
  simp only [List.take_succ_cons, List.take_zero, List.drop_succ_cons, List.drop_zero]
  refine upW_val (by rfl) (by rfl) (by rfl) (fun K hK => quiet_load_ct _ _ rfl N rfl 23 (PB (pN p)) 32 (PB_rw (pN p)) _ HX0.out Try.underlying23 rfl (by kernel_rfl) (hK _ ?_))
  simp only [Act.put, List.setIfInBounds_toArray, List.set]
  refine upW_call (by rfl) (by rfl) (.tuple #[.agg (WR p.x p.y 1 (p.x * p.y)), .bool true]) _ rfl (by simp) (fun p => ?_) ?_
  · go_big_quiet_op
    exact ⟨_, fun q => Calls.ext_of (HQ1.out q.x), rfl⟩
  simp only [Act.put, List.setIfInBounds_toArray, List.set]
  refine upW_val (by rfl) (by rfl) (by rfl) ?_
  intro K hK
  go_big_quiet_op
  refine hK _ ?_
  refine upW_late (by rfl) (.agg (WR p.x p.y 1 (p.x * p.y))) (fun _ => rfl) ?_
  simp only [Act.put, List.setIfInBounds_toArray, List.set]
  refine upW_late (by rfl) (.bool true) (fun _ => rfl) ?_
  simp only [Act.put, List.setIfInBounds_toArray, List.set]
  refine upW_nil (fun wr1 hbr1 => ?_)
  replace HX0 := Lib.hid (HX0.out.ext hbr1)
  replace HX1 := Lib.hid (HX1.out.ext hbr1)
  replace HX2 := Lib.hid (HX2.out.ext hbr1)
  replace HB := Lib.hid (HB.out.trans (hbr1.mono (show N ≤ _ by have := HB.out.size; have := HN.out; omega)))
  clear hbr1
  refine wpList_new1 rfl 88 rfl (WR 0 0 0 0) zPo rfl _ _ rfl rfl (WR p.x p.y 1 (p.x * p.y)) 16 (WR_rw p.x p.y 1 (p.x * p.y)) (WR_rw 0 0 0 0).size (by kernel_rfl) rfl rfl (fun B2 wr2 hB2 hbr2 hCB2 => ?_)
  have HB2 := Lib.hid hCB2
  have hlB2X0 : N < B2 := by rw [← hB2]; exact HX0.out.lt
  have hlB2X1 : (N + 1) < B2 := by rw [← hB2]; exact HX1.out.lt
  have hlB2X2 : (N + 1 + 1) < B2 := by rw [← hB2]; exact HX2.out.lt
  have hNB2 : N ≤ B2 := by rw [← hB2]; have := HB.out.size; have := HN.out; omega
  clear hB2 hCB2
  simp only [Act.put, List.setIfInBounds_toArray, List.set]
  replace HX0 := Lib.hid (HX0.out.ext hbr2)
  replace HX1 := Lib.hid (HX1.out.ext hbr2)
  replace HX2 := Lib.hid (HX2.out.ext hbr2)
  replace HB := Lib.hid (HB.out.trans (hbr2.mono (show N ≤ _ by have := HB.out.size; have := HN.out; omega)))
  clear hbr2
  go_upto_region 2 with fail
  refine wp_region_seq 5 ?_
  simp only [List.take_succ_cons, List.take_zero, List.drop_succ_cons, List.drop_zero]
  refine upW_val (by rfl) (by rfl) (by rfl) (fun K hK => quiet_load_ct _ _ rfl (N + 1) rfl 23 (PB n) 32 (PB_rw n) _ HX1.out Try.underlying23 rfl (by kernel_rfl) (hK _ ?_))
  simp only [Act.put, List.setIfInBounds_toArray, List.set]
  refine upW_call (by rfl) (by rfl) (.tuple #[.agg (WR 0 0 0 0), .bool false]) _ rfl (by simp) (fun p => ?_) ?_
  · go_big_quiet_op
    exact ⟨_, fun q => Calls.ext_of (HQ2.out q.x), rfl⟩
  simp only [Act.put, List.setIfInBounds_toArray, List.set]
  refine upW_val (by rfl) (by rfl) (by rfl) ?_
  intro K hK
  go_big_quiet_op
  refine hK _ ?_
  refine upW_late (by rfl) (.agg (WR 0 0 0 0)) (fun _ => rfl) ?_
  simp only [Act.put, List.setIfInBounds_toArray, List.set]
  refine upW_late (by rfl) (.bool false) (fun _ => rfl) ?_
  simp only [Act.put, List.setIfInBounds_toArray, List.set]
  refine upW_nil (fun wr3 hbr3 => ?_)
  replace HX0 := Lib.hid (HX0.out.ext hbr3)
  replace HX1 := Lib.hid (HX1.out.ext hbr3)
  replace HX2 := Lib.hid (HX2.out.ext hbr3)
  replace HB2 := Lib.hid (HB2.out.ext hbr3)
  replace HB := Lib.hid (HB.out.trans (hbr3.mono (show N ≤ _ by have := HB.out.size; have := HN.out; omega)))
  clear hbr3
  refine wpList_new1 rfl 88 rfl (WR 0 0 0 0) zPo rfl _ _ rfl rfl (WR 0 0 0 0) 16 (WR_rw 0 0 0 0) (WR_rw 0 0 0 0).size (by kernel_rfl) rfl rfl (fun B4 wr4 hB4 hbr4 hCB4 => ?_)
  have HB4 := Lib.hid hCB4
  have hlB4X0 : N < B4 := by rw [← hB4]; exact HX0.out.lt
  have hlB4X1 : (N + 1) < B4 := by rw [← hB4]; exact HX1.out.lt
  have hlB4X2 : (N + 1 + 1) < B4 := by rw [← hB4]; exact HX2.out.lt
  have hlB4B2 : B2 < B4 := by rw [← hB4]; exact HB2.out.lt
  have hNB4 : N ≤ B4 := by rw [← hB4]; have := HB.out.size; have := HN.out; omega
  clear hB4 hCB4
  simp only [Act.put, List.setIfInBounds_toArray, List.set]
  replace HX0 := Lib.hid (HX0.out.ext hbr4)
  replace HX1 := Lib.hid (HX1.out.ext hbr4)
  replace HX2 := Lib.hid (HX2.out.ext hbr4)
  replace HB2 := Lib.hid (HB2.out.ext hbr4)
  replace HB := Lib.hid (HB.out.trans (hbr4.mono (show N ≤ _ by have := HB.out.size; have := HN.out; omega)))
  clear hbr4
  go_upto_region 4 with fail
  refine wp_region_seq 1 ?_
  simp only [List.take_succ_cons, List.take_zero, List.drop_succ_cons, List.drop_zero]
  refine upW_late (by rfl) (.agg (PB 0)) (fun w => run_built _ _ _ _ rfl _ (by kernel_rfl) w) ?_
  simp only [Act.put, List.setIfInBounds_toArray, List.set]
  refine upW_nil (fun wr5 hbr5 => ?_)
  replace HX0 := Lib.hid (HX0.out.ext hbr5)
  replace HX1 := Lib.hid (HX1.out.ext hbr5)
  replace HX2 := Lib.hid (HX2.out.ext hbr5)
  replace HB2 := Lib.hid (HB2.out.ext hbr5)
  replace HB4 := Lib.hid (HB4.out.ext hbr5)
  replace HB := Lib.hid (HB.out.trans (hbr5.mono (show N ≤ _ by have := HB.out.size; have := HN.out; omega)))
  clear hbr5
  refine wpList_store_ct rfl 23 _ _ rfl (N + 1 + 1) (PB 0) rfl rfl 23 (PB 0) 32 HX2.out (by kernel_rfl) (PB_rw 0) (PB_rw 0) rfl (fun wr6 hSwr6 hOwr6 hWwr6 => ?_)
  replace HX2 := Lib.hid hSwr6
  replace HB := Lib.hid (hWwr6 _ _ HB.out (by omega))
  replace HX0 := Lib.hid (HX0.out.other (hOwr6 _ (by omega)))
  replace HX1 := Lib.hid (HX1.out.other (hOwr6 _ (by omega)))
  replace HB2 := Lib.hid (HB2.out.other (hOwr6 _ (by omega)))
  replace HB4 := Lib.hid (HB4.out.other (hOwr6 _ (by omega)))
  clear hSwr6 hOwr6 hWwr6
  go_wp2
  refine bodyPost_ret (results_ct_slot (p := 4) (q := 5) (by rfl) _ _ (N + 1 + 1) 23 (PB 0) 32 _ (.bool false) (by rfl) HX2.out (PB_rw 0) Try.underlying23 rfl (by kernel_rfl) rfl) rfl ⟨by first | rfl | (rfl), by rw [HN.out]; exact HB.out⟩
set_option maxRecDepth 100000 in
set_option maxHeartbeats 1000000 in
theorem TimesD_ok (k : Nat) (hk : k < 115792089237316195423570985008687907853269984665640564039457584007913129639936) (p : Pt) (w : World) :
    Calls Try.prog 28 #[.agg (PB k), .agg (PB (pN p))] w fun e w' => e = .returned (.tuple #[.agg (PB (pN (ptimes k p))), .bool true]) ∧ Below w.heap.size w w' := by
  obtain ⟨tt, htt⟩ : ∃ q, runQ (fun e => sumQ e e) (fun e => sumQ e (p.x, p.y, 1, p.x * p.y)) k 256 (0, 1, 1, 0) = q := ⟨_, rfl⟩
  have HRP := Lib.hid (show RepQ tt (ptimes k p) from htt ▸ timesD_rep (flatQ p) hk)
  have HTT := Lib.hid htt
  have HK := Lib.hid hk
  clear htt hk
  have HQ1 := Lib.hid (fun w => open_ok p w)
  have HQ2 := Lib.hid (fun w => timesP_any p.x p.y 1 (p.x * p.y) k tt HK.out HTT.out w)
  obtain ⟨c3, hc3⟩ : ∃ zq : Fp, zq = tt.1 * finv tt.2.2.1 := ⟨_, rfl⟩
  have HE3 := Lib.hid hc3
  clear hc3
  obtain ⟨c4, hc4⟩ : ∃ zq : Fp, zq = tt.2.1 * finv tt.2.2.1 := ⟨_, rfl⟩
  have HE4 := Lib.hid hc4
  clear hc4
  have HQ5 := Lib.hid (fun w => packedP_any tt.1 tt.2.1 tt.2.2.1 tt.2.2.2 w)
  rw [← HE3.out, ← HE4.out] at HQ5
  have hz0 := zBy
  have hz1 := zPo
  go_enter Try.func28, Try.ntmps28
  go_upto_region 1 with fail
  generalize hW1 : World.alloc _ _ = W1
  obtain ⟨N, hN⟩ : ∃ n, w.heap.size = n := ⟨_, rfl⟩
  have HX0 := Lib.hid (show CT W1 N 23 (PB k) by subst hW1; rw [← hN]; exact (allocs3_at w _ _ _).1)
  have HX1 := Lib.hid (show CT W1 (N + 1) 23 (PB (pN p)) by subst hW1; rw [← hN]; exact (allocs3_at w _ _ _).2.1)
  have HX2 := Lib.hid (show CT W1 (N + 1 + 1) 23 (PB 0) by subst hW1; rw [← hN]; exact (allocs3_at w _ _ _).2.2)
  have HB := Lib.hid (show Below N w W1 by subst hW1; rw [← hN]; exact allocs3_below w _ _ _)
  have HN := Lib.hid hN
  rw [hN]
  clear hW1 hN
  refine wp_region_seq 5 ?_
  simp only [List.take_succ_cons, List.take_zero, List.drop_succ_cons, List.drop_zero]
  refine upW_val (by rfl) (by rfl) (by rfl) (fun K hK => quiet_load_ct _ _ rfl (N + 1) rfl 23 (PB (pN p)) 32 (PB_rw (pN p)) _ HX1.out Try.underlying23 rfl (by kernel_rfl) (hK _ ?_))
  simp only [Act.put, List.setIfInBounds_toArray, List.set]
  refine upW_call (by rfl) (by rfl) (.tuple #[.agg (WR p.x p.y 1 (p.x * p.y)), .bool true]) _ rfl (by simp) (fun p => ?_) ?_
  · go_big_quiet_op
    exact ⟨_, fun q => Calls.ext_of (HQ1.out q.x), rfl⟩
  simp only [Act.put, List.setIfInBounds_toArray, List.set]
  refine upW_val (by rfl) (by rfl) (by rfl) ?_
  intro K hK
  go_big_quiet_op
  refine hK _ ?_
  refine upW_late (by rfl) (.agg (WR p.x p.y 1 (p.x * p.y))) (fun _ => rfl) ?_
  simp only [Act.put, List.setIfInBounds_toArray, List.set]
  refine upW_late (by rfl) (.bool true) (fun _ => rfl) ?_
  simp only [Act.put, List.setIfInBounds_toArray, List.set]
  refine upW_nil (fun wr1 hbr1 => ?_)
  replace HX0 := Lib.hid (HX0.out.ext hbr1)
  replace HX1 := Lib.hid (HX1.out.ext hbr1)
  replace HX2 := Lib.hid (HX2.out.ext hbr1)
  replace HB := Lib.hid (HB.out.trans (hbr1.mono (show N ≤ _ by have := HB.out.size; have := HN.out; omega)))
  clear hbr1
  refine wpList_new1 rfl 88 rfl (WR 0 0 0 0) zPo rfl _ _ rfl rfl (WR p.x p.y 1 (p.x * p.y)) 16 (WR_rw p.x p.y 1 (p.x * p.y)) (WR_rw 0 0 0 0).size (by kernel_rfl) rfl rfl (fun B2 wr2 hB2 hbr2 hCB2 => ?_)
  have HB2 := Lib.hid hCB2
  have hlB2X0 : N < B2 := by rw [← hB2]; exact HX0.out.lt
  have hlB2X1 : (N + 1) < B2 := by rw [← hB2]; exact HX1.out.lt
  have hlB2X2 : (N + 1 + 1) < B2 := by rw [← hB2]; exact HX2.out.lt
  have hNB2 : N ≤ B2 := by rw [← hB2]; have := HB.out.size; have := HN.out; omega
  clear hB2 hCB2
  simp only [Act.put, List.setIfInBounds_toArray, List.set]
  replace HX0 := Lib.hid (HX0.out.ext hbr2)
  replace HX1 := Lib.hid (HX1.out.ext hbr2)
  replace HX2 := Lib.hid (HX2.out.ext hbr2)
  replace HB := Lib.hid (HB.out.trans (hbr2.mono (show N ≤ _ by have := HB.out.size; have := HN.out; omega)))
  clear hbr2
  go_upto_region 4 with fail
  refine wp_region_seq 4 ?_
  simp only [List.take_succ_cons, List.take_zero, List.drop_succ_cons, List.drop_zero]
  refine upW_val (by rfl) (by rfl) (by rfl) (fun K hK => quiet_load_ct _ _ rfl N rfl 23 (PB k) 32 (PB_rw k) _ HX0.out Try.underlying23 rfl (by kernel_rfl) (hK _ ?_))
  simp only [Act.put, List.setIfInBounds_toArray, List.set]
  refine upW_val (by rfl) (by rfl) (by rfl) (fun K hK => quiet_load_ct _ _ rfl B2 rfl 88 (WR p.x p.y 1 (p.x * p.y)) 16 (WR_rw p.x p.y 1 (p.x * p.y)) _ HB2.out Try.underlying88 rfl (by kernel_rfl) (hK _ ?_))
  simp only [Act.put, List.setIfInBounds_toArray, List.set]
  refine upW_call (by rfl) (by rfl) (.agg (WR tt.1 tt.2.1 tt.2.2.1 tt.2.2.2)) _ rfl (by simp) (fun p => ?_) ?_
  · go_big_quiet_op
    exact ⟨_, fun q => Calls.ext_of (HQ2.out q.x), rfl⟩
  simp only [Act.put, List.setIfInBounds_toArray, List.set]
  refine upW_call (by rfl) (by rfl) (.agg (PB (encXY c3 c4))) _ rfl (by simp) (fun p => ?_) ?_
  · go_big_quiet_op
    exact ⟨_, fun q => Calls.ext_of (HQ5.out q.x), rfl⟩
  simp only [Act.put, List.setIfInBounds_toArray, List.set]
  refine upW_nil (fun wr3 hbr3 => ?_)
  replace HX0 := Lib.hid (HX0.out.ext hbr3)
  replace HX1 := Lib.hid (HX1.out.ext hbr3)
  replace HX2 := Lib.hid (HX2.out.ext hbr3)
  replace HB2 := Lib.hid (HB2.out.ext hbr3)
  replace HB := Lib.hid (HB.out.trans (hbr3.mono (show N ≤ _ by have := HB.out.size; have := HN.out; omega)))
  clear hbr3
  refine wpList_store_ct rfl 23 _ _ rfl (N + 1 + 1) (PB (encXY c3 c4)) rfl rfl 23 (PB 0) 32 HX2.out (by kernel_rfl) (PB_rw 0) (PB_rw (encXY c3 c4)) rfl (fun wr4 hSwr4 hOwr4 hWwr4 => ?_)
  replace HX2 := Lib.hid hSwr4
  replace HB := Lib.hid (hWwr4 _ _ HB.out (by omega))
  replace HX0 := Lib.hid (HX0.out.other (hOwr4 _ (by omega)))
  replace HX1 := Lib.hid (HX1.out.other (hOwr4 _ (by omega)))
  replace HB2 := Lib.hid (HB2.out.other (hOwr4 _ (by omega)))
  clear hSwr4 hOwr4 hWwr4
  go_wp2
  refine bodyPost_ret (results_ct_slot (p := 4) (q := 5) (by rfl) _ _ (N + 1 + 1) 23 (PB (encXY c3 c4)) 32 _ (.bool true) (by rfl) HX2.out (PB_rw (encXY c3 c4)) Try.underlying23 rfl (by kernel_rfl) rfl) rfl ⟨congrArg (fun k => Ending.returned (.tuple #[.agg (PB k), .bool true])) (by simp only [HE3.out, HE4.out]; exact repQ_point HRP.out), by rw [HN.out]; exact HB.out⟩
set_option maxRecDepth 100000 in
set_option maxHeartbeats 1000000 in
theorem TimesD_no (k : Nat) (hk : k < 115792089237316195423570985008687907853269984665640564039457584007913129639936) (n : Nat) (hn : n < 115792089237316195423570985008687907853269984665640564039457584007913129639936) (gn : ∀ p : Pt, pN p ≠ n) (w : World) :
    Calls Try.prog 28 #[.agg (PB k), .agg (PB n)] w fun e w' => e = .returned (.tuple #[.agg (PB 0), .bool false]) ∧ Below w.heap.size w w' := by
  clear hk
  have HLn := Lib.hid hn
  have HNn := Lib.hid gn
  clear hn gn
  have HQ1 := Lib.hid (fun w => open_no n HLn.out HNn.out w)
  have hz0 := zBy
  have hz1 := zPo
  go_enter Try.func28, Try.ntmps28
  go_upto_region 1 with fail
  generalize hW1 : World.alloc _ _ = W1
  obtain ⟨N, hN⟩ : ∃ n, w.heap.size = n := ⟨_, rfl⟩
  have HX0 := Lib.hid (show CT W1 N 23 (PB k) by subst hW1; rw [← hN]; exact (allocs3_at w _ _ _).1)
  have HX1 := Lib.hid (show CT W1 (N + 1) 23 (PB n) by subst hW1; rw [← hN]; exact (allocs3_at w _ _ _).2.1)
  have HX2 := Lib.hid (show CT W1 (N + 1 + 1) 23 (PB 0) by subst hW1; rw [← hN]; exact (allocs3_at w _ _ _).2.2)
  have HB := Lib.hid (show Below N w W1 by subst hW1; rw [← hN]; exact allocs3_below w _ _ _)
  have HN := Lib.hid hN
  rw [hN]
  clear hW1 hN
  refine wp_region_seq 5 ?_
  simp only [List.take_succ_cons, List.take_zero, List.drop_succ_cons, List.drop_zero]
  refine upW_val (by rfl) (by rfl) (by rfl) (fun K hK => quiet_load_ct _ _ rfl (N + 1) rfl 23 (PB n) 32 (PB_rw n) _ HX1.out Try.underlying23 rfl (by kernel_rfl) (hK _ ?_))
  simp only [Act.put, List.setIfInBounds_toArray, List.set]
  refine upW_call (by rfl) (by rfl) (.tuple #[.agg (WR 0 0 0 0), .bool false]) _ rfl (by simp) (fun p => ?_) ?_
  · go_big_quiet_op
    exact ⟨_, fun q => Calls.ext_of (HQ1.out q.x), rfl⟩
  simp only [Act.put, List.setIfInBounds_toArray, List.set]
  refine upW_val (by rfl) (by rfl) (by rfl) ?_
  intro K hK
  go_big_quiet_op
  refine hK _ ?_
  refine upW_late (by rfl) (.agg (WR 0 0 0 0)) (fun _ => rfl) ?_
  simp only [Act.put, List.setIfInBounds_toArray, List.set]
  refine upW_late (by rfl) (.bool false) (fun _ => rfl) ?_
  simp only [Act.put, List.setIfInBounds_toArray, List.set]
  refine upW_nil (fun wr1 hbr1 => ?_)
  replace HX0 := Lib.hid (HX0.out.ext hbr1)
  replace HX1 := Lib.hid (HX1.out.ext hbr1)
  replace HX2 := Lib.hid (HX2.out.ext hbr1)
  replace HB := Lib.hid (HB.out.trans (hbr1.mono (show N ≤ _ by have := HB.out.size; have := HN.out; omega)))
  clear hbr1
  refine wpList_new1 rfl 88 rfl (WR 0 0 0 0) zPo rfl _ _ rfl rfl (WR 0 0 0 0) 16 (WR_rw 0 0 0 0) (WR_rw 0 0 0 0).size (by kernel_rfl) rfl rfl (fun B2 wr2 hB2 hbr2 hCB2 => ?_)
  have HB2 := Lib.hid hCB2
  have hlB2X0 : N < B2 := by rw [← hB2]; exact HX0.out.lt
  have hlB2X1 : (N + 1) < B2 := by rw [← hB2]; exact HX1.out.lt
  have hlB2X2 : (N + 1 + 1) < B2 := by rw [← hB2]; exact HX2.out.lt
  have hNB2 : N ≤ B2 := by rw [← hB2]; have := HB.out.size; have := HN.out; omega
  clear hB2 hCB2
  simp only [Act.put, List.setIfInBounds_toArray, List.set]
  replace HX0 := Lib.hid (HX0.out.ext hbr2)
  replace HX1 := Lib.hid (HX1.out.ext hbr2)
  replace HX2 := Lib.hid (HX2.out.ext hbr2)
  replace HB := Lib.hid (HB.out.trans (hbr2.mono (show N ≤ _ by have := HB.out.size; have := HN.out; omega)))
  clear hbr2
  go_upto_region 3 with fail
  refine wp_region_seq 1 ?_
  simp only [List.take_succ_cons, List.take_zero, List.drop_succ_cons, List.drop_zero]
  refine upW_late (by rfl) (.agg (PB 0)) (fun w => run_built _ _ _ _ rfl _ (by kernel_rfl) w) ?_
  simp only [Act.put, List.setIfInBounds_toArray, List.set]
  refine upW_nil (fun wr3 hbr3 => ?_)
  replace HX0 := Lib.hid (HX0.out.ext hbr3)
  replace HX1 := Lib.hid (HX1.out.ext hbr3)
  replace HX2 := Lib.hid (HX2.out.ext hbr3)
  replace HB2 := Lib.hid (HB2.out.ext hbr3)
  replace HB := Lib.hid (HB.out.trans (hbr3.mono (show N ≤ _ by have := HB.out.size; have := HN.out; omega)))
  clear hbr3
  refine wpList_store_ct rfl 23 _ _ rfl (N + 1 + 1) (PB 0) rfl rfl 23 (PB 0) 32 HX2.out (by kernel_rfl) (PB_rw 0) (PB_rw 0) rfl (fun wr4 hSwr4 hOwr4 hWwr4 => ?_)
  replace HX2 := Lib.hid hSwr4
  replace HB := Lib.hid (hWwr4 _ _ HB.out (by omega))
  replace HX0 := Lib.hid (HX0.out.other (hOwr4 _ (by omega)))
  replace HX1 := Lib.hid (HX1.out.other (hOwr4 _ (by omega)))
  replace HB2 := Lib.hid (HB2.out.other (hOwr4 _ (by omega)))
  clear hSwr4 hOwr4 hWwr4
  go_wp2
  refine bodyPost_ret (results_ct_slot (p := 4) (q := 5) (by rfl) _ _ (N + 1 + 1) 23 (PB 0) 32 _ (.bool false) (by rfl) HX2.out (PB_rw 0) Try.underlying23 rfl (by kernel_rfl) rfl) rfl ⟨by first | rfl | (rfl), by rw [HN.out]; exact HB.out⟩
theorem finv_one : finv 1 = 1 := by
  have := finv_mul Fp.one_ne
  grind
theorem mul_one' (a : Fp) : a * 1 = a := by grind
set_option maxRecDepth 100000 in
set_option maxHeartbeats 1000000 in
theorem OfD_no (n m : Nat) (hn : n < 115792089237316195423570985008687907853269984665640564039457584007913129639936) (hm : m < 115792089237316195423570985008687907853269984665640564039457584007913129639936) (hon : decide (fp m * fp m - fp n * fp n = 1 + cD * (fp n * fp n * (fp m * fp m))) = false) (w : World) :
    Calls Try.prog 30 #[.agg (PB n), .agg (PB m)] w fun e w' => e = .returned (.tuple #[.agg (PB 0), .bool false]) ∧ Below w.heap.size w w' := by
  have HLn := Lib.hid hn
  have HLm := Lib.hid hm
  have HON := Lib.hid (show (!decide ((fp m * fp m - fp n * fp n).val = (1 + cD * (fp n * fp n * (fp m * fp m))).val)) = true by
    have e : decide ((fp m * fp m - fp n * fp n).val = (1 + cD * (fp n * fp n * (fp m * fp m))).val) = false := by
      rw [← hon, Bool.eq_iff_iff, decide_eq_true_eq, decide_eq_true_eq]
      exact ⟨fun h => Fin.ext h, fun h => by rw [h]⟩
    rw [e]; rfl)
  clear hn hm hon
  have HQ1 := Lib.hid (fun w => PB.from n HLn.out w)
  have HQ2 := Lib.hid (fun w => WN.rest n HLn.out w)
  have HQ3 := Lib.hid (fun w => PB.from m HLm.out w)
  have HQ4 := Lib.hid (fun w => WN.rest m HLm.out w)
  obtain ⟨c5, hc5⟩ : ∃ zq : Fp, zq = (fp n) * (fp n) := ⟨_, rfl⟩
  have HE5 := Lib.hid hc5
  clear hc5
  have HQ6 := Lib.hid (fun w => WB.mul (fp n) (fp n) w)
  rw [← HE5.out] at HQ6
  obtain ⟨c7, hc7⟩ : ∃ zq : Fp, zq = (fp m) * (fp m) := ⟨_, rfl⟩
  have HE7 := Lib.hid hc7
  clear hc7
  have HQ8 := Lib.hid (fun w => WB.mul (fp m) (fp m) w)
  rw [← HE7.out] at HQ8
  obtain ⟨c9, hc9⟩ : ∃ zq : Fp, zq = c7 - c5 := ⟨_, rfl⟩
  have HE9 := Lib.hid hc9
  clear hc9
  have HQ10 := Lib.hid (fun w => WB.sub c7 c5 w)
  rw [← HE9.out] at HQ10
  obtain ⟨c11, hc11⟩ : ∃ zq : Fp, zq = c5 * c7 := ⟨_, rfl⟩
  have HE11 := Lib.hid hc11
  clear hc11
  have HQ12 := Lib.hid (fun w => WB.mul c5 c7 w)
  rw [← HE11.out] at HQ12
  obtain ⟨c13, hc13⟩ : ∃ zq : Fp, zq = cD * c11 := ⟨_, rfl⟩
  have HE13 := Lib.hid hc13
  clear hc13
  have HQ14 := Lib.hid (fun w => WB.mul cD c11 w)
  rw [← HE13.out] at HQ14
  obtain ⟨c15, hc15⟩ : ∃ zq : Fp, zq = 1 + c13 := ⟨_, rfl⟩
  have HE15 := Lib.hid hc15
  clear hc15
  have HQ16 := Lib.hid (fun w => WB.add 1 c13 w)
  rw [← HE15.out] at HQ16
  have hz0 := zBy
  have hz1 := zWo
  go_enter Try.func30, Try.ntmps30
  go_upto_region 1 with fail
  generalize hW1 : World.alloc _ _ = W1
  obtain ⟨N, hN⟩ : ∃ n, w.heap.size = n := ⟨_, rfl⟩
  have HX0 := Lib.hid (show CT W1 N 23 (PB n) by subst hW1; rw [← hN]; exact (allocs3_at w _ _ _).1)
  have HX1 := Lib.hid (show CT W1 (N + 1) 23 (PB m) by subst hW1; rw [← hN]; exact (allocs3_at w _ _ _).2.1)
  have HX2 := Lib.hid (show CT W1 (N + 1 + 1) 23 (PB 0) by subst hW1; rw [← hN]; exact (allocs3_at w _ _ _).2.2)
  have HB := Lib.hid (show Below N w W1 by subst hW1; rw [← hN]; exact allocs3_below w _ _ _)
  have HN := Lib.hid hN
  rw [hN]
  clear hW1 hN
  refine wp_region_whole [0, 1, 2, 3, 4, 5] [⟨6, _, 86, (WB 0), 6, 8, _, 86, 12, (WB (fp n))⟩, ⟨7, _, 86, (WB 0), 7, 9, _, 86, 15, (WB (fp m))⟩] [9, 8, 7, 6] (by kernel_rfl) (by kernel_rfl) (List.forall_mem_cons.2 ⟨⟨⟨rfl, rfl, rfl, fun a w => alloc_run _ _ zWo a _ rfl w⟩, rfl, rfl, rfl, rfl, (WB_rw (fp n)).info (by kernel_rfl), (WB_rw 0).same (WB_rw (fp n)), (WB_rw (fp n)).one⟩, (List.forall_mem_cons.2 ⟨⟨⟨rfl, rfl, rfl, fun a w => alloc_run _ _ zWo a _ rfl w⟩, rfl, rfl, rfl, rfl, (WB_rw (fp m)).info (by kernel_rfl), (WB_rw 0).same (WB_rw (fp m)), (WB_rw (fp m)).one⟩, (List.forall_mem_nil _)⟩)⟩) rfl ?_
  simp only [List.foldl, List.eraseIdx_cons_succ, List.eraseIdx_cons_zero]
  refine upW_val (by rfl) (by rfl) (by rfl) (fun K hK => quiet_load_ct _ _ rfl N rfl 23 (PB n) 32 (PB_rw n) _ HX0.out Try.underlying23 rfl (by kernel_rfl) (hK _ ?_))
  simp only [Act.put, List.setIfInBounds_toArray, List.set]
  refine upW_call (by rfl) (by rfl) (.agg (WN n)) _ rfl (by simp) (fun p => ?_) ?_
  · go_big_quiet_op
    exact ⟨_, fun q => Calls.ext_of (HQ1.out q.x), rfl⟩
  simp only [Act.put, List.setIfInBounds_toArray, List.set]
  refine upW_call (by rfl) (by rfl) (.agg (WB (fp n))) _ rfl (by simp) (fun p => ?_) ?_
  · go_big_quiet_op
    exact ⟨_, fun q => Calls.ext_of (HQ2.out q.x), rfl⟩
  simp only [Act.put, List.setIfInBounds_toArray, List.set]
  refine upW_val (by rfl) (by rfl) (by rfl) (fun K hK => quiet_load_ct _ _ rfl (N + 1) rfl 23 (PB m) 32 (PB_rw m) _ HX1.out Try.underlying23 rfl (by kernel_rfl) (hK _ ?_))
  simp only [Act.put, List.setIfInBounds_toArray, List.set]
  refine upW_call (by rfl) (by rfl) (.agg (WN m)) _ rfl (by simp) (fun p => ?_) ?_
  · go_big_quiet_op
    exact ⟨_, fun q => Calls.ext_of (HQ3.out q.x), rfl⟩
  simp only [Act.put, List.setIfInBounds_toArray, List.set]
  refine upW_call (by rfl) (by rfl) (.agg (WB (fp m))) _ rfl (by simp) (fun p => ?_) ?_
  · go_big_quiet_op
    exact ⟨_, fun q => Calls.ext_of (HQ4.out q.x), rfl⟩
  simp only [Act.put, List.setIfInBounds_toArray, List.set]
  refine upW_nil ⟨(List.forall_mem_cons.2 ⟨rfl, (List.forall_mem_cons.2 ⟨rfl, (List.forall_mem_nil _)⟩)⟩), fun M wr1 hM hne hbr1 => ?_⟩
  have hm0 := hM _ (List.mem_cons_self ..)
  have hm1 := hM _ (List.mem_cons_of_mem _ (List.mem_cons_self ..))
  have hn1x01 : M 6 ≠ M 7 := hne _ (List.mem_cons_self ..) _ (List.mem_cons_of_mem _ (List.mem_cons_self ..)) (show (6 : Nat) ≠ 7 by decide)
  clear hM hne
  simp only [List.foldr, pS, Act.put, List.setIfInBounds_toArray, List.set]
  obtain ⟨B1x0, hB1x0⟩ : ∃ m, M 6 = m := ⟨_, rfl⟩
  have HB1x0 := Lib.hid (show CT wr1 B1x0 86 (WB (fp n)) by rw [← hB1x0]; exact hm0.2)
  have hlB1x0X0 : N < B1x0 := by rw [← hB1x0]; exact Nat.lt_of_lt_of_le HX0.out.lt hm0.1
  have hlB1x0X1 : (N + 1) < B1x0 := by rw [← hB1x0]; exact Nat.lt_of_lt_of_le HX1.out.lt hm0.1
  have hlB1x0X2 : (N + 1 + 1) < B1x0 := by rw [← hB1x0]; exact Nat.lt_of_lt_of_le HX2.out.lt hm0.1
  have hNB1x0 : N ≤ B1x0 := by rw [← hB1x0]; exact Nat.le_trans (by have := HB.out.size; have := HN.out; omega) hm0.1
  obtain ⟨B1x1, hB1x1⟩ : ∃ m, M 7 = m := ⟨_, rfl⟩
  have HB1x1 := Lib.hid (show CT wr1 B1x1 86 (WB (fp m)) by rw [← hB1x1]; exact hm1.2)
  have hlB1x1X0 : N < B1x1 := by rw [← hB1x1]; exact Nat.lt_of_lt_of_le HX0.out.lt hm1.1
  have hlB1x1X1 : (N + 1) < B1x1 := by rw [← hB1x1]; exact Nat.lt_of_lt_of_le HX1.out.lt hm1.1
  have hlB1x1X2 : (N + 1 + 1) < B1x1 := by rw [← hB1x1]; exact Nat.lt_of_lt_of_le HX2.out.lt hm1.1
  have hNB1x1 : N ≤ B1x1 := by rw [← hB1x1]; exact Nat.le_trans (by have := HB.out.size; have := HN.out; omega) hm1.1
  rw [hB1x0, hB1x1] at hn1x01
  rw [hB1x0, hB1x1]
  clear hm0 hB1x0 hm1 hB1x1
  replace HX0 := Lib.hid (HX0.out.ext hbr1)
  replace HX1 := Lib.hid (HX1.out.ext hbr1)
  replace HX2 := Lib.hid (HX2.out.ext hbr1)
  replace HB := Lib.hid (HB.out.trans (hbr1.mono (show N ≤ _ by have := HB.out.size; have := HN.out; omega)))
  clear hbr1
  go_upto_region 2 with fail
  refine wp_region_whole [0, 1, 2, 3, 4, 5] [⟨6, _, 86, (WB 0), 8, 8, _, 86, 18, (WB c5)⟩, ⟨7, _, 86, (WB 0), 9, 9, _, 86, 21, (WB c7)⟩] [9, 8, 7, 6] (by kernel_rfl) (by kernel_rfl) (List.forall_mem_cons.2 ⟨⟨⟨rfl, rfl, rfl, fun a w => alloc_run _ _ zWo a _ rfl w⟩, rfl, rfl, rfl, rfl, (WB_rw c5).info (by kernel_rfl), (WB_rw 0).same (WB_rw c5), (WB_rw c5).one⟩, (List.forall_mem_cons.2 ⟨⟨⟨rfl, rfl, rfl, fun a w => alloc_run _ _ zWo a _ rfl w⟩, rfl, rfl, rfl, rfl, (WB_rw c7).info (by kernel_rfl), (WB_rw 0).same (WB_rw c7), (WB_rw c7).one⟩, (List.forall_mem_nil _)⟩)⟩) rfl ?_
  simp only [List.foldl, List.eraseIdx_cons_succ, List.eraseIdx_cons_zero]
  refine upW_val (by rfl) (by rfl) (by rfl) (fun K hK => quiet_load_ct _ _ rfl B1x0 rfl 86 (WB (fp n)) 4 (WB_rw (fp n)) _ HB1x0.out Try.underlying86 rfl (by kernel_rfl) (hK _ ?_))
  simp only [Act.put, List.setIfInBounds_toArray, List.set]
  refine upW_val (by rfl) (by rfl) (by rfl) (fun K hK => quiet_load_ct _ _ rfl B1x0 rfl 86 (WB (fp n)) 4 (WB_rw (fp n)) _ HB1x0.out Try.underlying86 rfl (by kernel_rfl) (hK _ ?_))
  simp only [Act.put, List.setIfInBounds_toArray, List.set]
  refine upW_call (by rfl) (by rfl) (.agg (WB c5)) _ rfl (by simp) (fun p => ?_) ?_
  · go_big_quiet_op
    exact ⟨_, fun q => Calls.ext_of (HQ6.out q.x), rfl⟩
  simp only [Act.put, List.setIfInBounds_toArray, List.set]
  refine upW_val (by rfl) (by rfl) (by rfl) (fun K hK => quiet_load_ct _ _ rfl B1x1 rfl 86 (WB (fp m)) 4 (WB_rw (fp m)) _ HB1x1.out Try.underlying86 rfl (by kernel_rfl) (hK _ ?_))
  simp only [Act.put, List.setIfInBounds_toArray, List.set]
  refine upW_val (by rfl) (by rfl) (by rfl) (fun K hK => quiet_load_ct _ _ rfl B1x1 rfl 86 (WB (fp m)) 4 (WB_rw (fp m)) _ HB1x1.out Try.underlying86 rfl (by kernel_rfl) (hK _ ?_))
  simp only [Act.put, List.setIfInBounds_toArray, List.set]
  refine upW_call (by rfl) (by rfl) (.agg (WB c7)) _ rfl (by simp) (fun p => ?_) ?_
  · go_big_quiet_op
    exact ⟨_, fun q => Calls.ext_of (HQ8.out q.x), rfl⟩
  simp only [Act.put, List.setIfInBounds_toArray, List.set]
  refine upW_nil ⟨(List.forall_mem_cons.2 ⟨rfl, (List.forall_mem_cons.2 ⟨rfl, (List.forall_mem_nil _)⟩)⟩), fun M wr2 hM hne hbr2 => ?_⟩
  have hm0 := hM _ (List.mem_cons_self ..)
  have hm1 := hM _ (List.mem_cons_of_mem _ (List.mem_cons_self ..))
  have hn2x01 : M 6 ≠ M 7 := hne _ (List.mem_cons_self ..) _ (List.mem_cons_of_mem _ (List.mem_cons_self ..)) (show (6 : Nat) ≠ 7 by decide)
  clear hM hne
  simp only [List.foldr, pS, Act.put, List.setIfInBounds_toArray, List.set]
  obtain ⟨B2x0, hB2x0⟩ : ∃ m, M 6 = m := ⟨_, rfl⟩
  have HB2x0 := Lib.hid (show CT wr2 B2x0 86 (WB c5) by rw [← hB2x0]; exact hm0.2)
  have hlB2x0X0 : N < B2x0 := by rw [← hB2x0]; exact Nat.lt_of_lt_of_le HX0.out.lt hm0.1
  have hlB2x0X1 : (N + 1) < B2x0 := by rw [← hB2x0]; exact Nat.lt_of_lt_of_le HX1.out.lt hm0.1
  have hlB2x0X2 : (N + 1 + 1) < B2x0 := by rw [← hB2x0]; exact Nat.lt_of_lt_of_le HX2.out.lt hm0.1
  have hlB2x0B1x0 : B1x0 < B2x0 := by rw [← hB2x0]; exact Nat.lt_of_lt_of_le HB1x0.out.lt hm0.1
  have hlB2x0B1x1 : B1x1 < B2x0 := by rw [← hB2x0]; exact Nat.lt_of_lt_of_le HB1x1.out.lt hm0.1
  have hNB2x0 : N ≤ B2x0 := by rw [← hB2x0]; exact Nat.le_trans (by have := HB.out.size; have := HN.out; omega) hm0.1
  obtain ⟨B2x1, hB2x1⟩ : ∃ m, M 7 = m := ⟨_, rfl⟩
  have HB2x1 := Lib.hid (show CT wr2 B2x1 86 (WB c7) by rw [← hB2x1]; exact hm1.2)
  have hlB2x1X0 : N < B2x1 := by rw [← hB2x1]; exact Nat.lt_of_lt_of_le HX0.out.lt hm1.1
  have hlB2x1X1 : (N + 1) < B2x1 := by rw [← hB2x1]; exact Nat.lt_of_lt_of_le HX1.out.lt hm1.1
  have hlB2x1X2 : (N + 1 + 1) < B2x1 := by rw [← hB2x1]; exact Nat.lt_of_lt_of_le HX2.out.lt hm1.1
  have hlB2x1B1x0 : B1x0 < B2x1 := by rw [← hB2x1]; exact Nat.lt_of_lt_of_le HB1x0.out.lt hm1.1
  have hlB2x1B1x1 : B1x1 < B2x1 := by rw [← hB2x1]; exact Nat.lt_of_lt_of_le HB1x1.out.lt hm1.1
  have hNB2x1 : N ≤ B2x1 := by rw [← hB2x1]; exact Nat.le_trans (by have := HB.out.size; have := HN.out; omega) hm1.1
  rw [hB2x0, hB2x1] at hn2x01
  rw [hB2x0, hB2x1]
  clear hm0 hB2x0 hm1 hB2x1
  replace HX0 := Lib.hid (HX0.out.ext hbr2)
  replace HX1 := Lib.hid (HX1.out.ext hbr2)
  replace HX2 := Lib.hid (HX2.out.ext hbr2)
  replace HB1x0 := Lib.hid (HB1x0.out.ext hbr2)
  replace HB1x1 := Lib.hid (HB1x1.out.ext hbr2)
  replace HB := Lib.hid (HB.out.trans (hbr2.mono (show N ≤ _ by have := HB.out.size; have := HN.out; omega)))
  clear hbr2
  go_upto_region 3 with fail
  refine wp_region_whole [0, 1, 2, 3, 4, 5, 6, 7, 8, 9, 10] [] [] (by kernel_rfl) (by kernel_rfl) (List.forall_mem_nil _) rfl ?_
  simp only [List.foldl]
  refine upW_val (by rfl) (by rfl) (by rfl) (fun K hK => quiet_load_ct _ _ rfl B2x1 rfl 86 (WB c7) 4 (WB_rw c7) _ HB2x1.out Try.underlying86 rfl (by kernel_rfl) (hK _ ?_))
  simp only [Act.put, List.setIfInBounds_toArray, List.set]
  refine upW_val (by rfl) (by rfl) (by rfl) (fun K hK => quiet_load_ct _ _ rfl B2x0 rfl 86 (WB c5) 4 (WB_rw c5) _ HB2x0.out Try.underlying86 rfl (by kernel_rfl) (hK _ ?_))
  simp only [Act.put, List.setIfInBounds_toArray, List.set]
  refine upW_call (by rfl) (by rfl) (.agg (WB c9)) _ rfl (by simp) (fun p => ?_) ?_
  · go_big_quiet_op
    exact ⟨_, fun q => Calls.ext_of (HQ10.out q.x), rfl⟩
  simp only [Act.put, List.setIfInBounds_toArray, List.set]
  refine upW_late (by rfl) (.agg (WB 1)) (fun w => run_built _ _ _ _ rfl _ (by kernel_rfl) w) ?_
  simp only [Act.put, List.setIfInBounds_toArray, List.set]
  refine upW_call (by rfl) (by rfl) (.agg (WB cD)) _ rfl (by simp) (fun p => ?_) ?_
  · go_big_quiet_op
    exact ⟨_, fun q => Calls.ext_of (dee_any q.x), rfl⟩
  simp only [Act.put, List.setIfInBounds_toArray, List.set]
  refine upW_val (by rfl) (by rfl) (by rfl) (fun K hK => quiet_load_ct _ _ rfl B2x0 rfl 86 (WB c5) 4 (WB_rw c5) _ HB2x0.out Try.underlying86 rfl (by kernel_rfl) (hK _ ?_))
  simp only [Act.put, List.setIfInBounds_toArray, List.set]
  refine upW_val (by rfl) (by rfl) (by rfl) (fun K hK => quiet_load_ct _ _ rfl B2x1 rfl 86 (WB c7) 4 (WB_rw c7) _ HB2x1.out Try.underlying86 rfl (by kernel_rfl) (hK _ ?_))
  simp only [Act.put, List.setIfInBounds_toArray, List.set]
  refine upW_call (by rfl) (by rfl) (.agg (WB c11)) _ rfl (by simp) (fun p => ?_) ?_
  · go_big_quiet_op
    exact ⟨_, fun q => Calls.ext_of (HQ12.out q.x), rfl⟩
  simp only [Act.put, List.setIfInBounds_toArray, List.set]
  refine upW_call (by rfl) (by rfl) (.agg (WB c13)) _ rfl (by simp) (fun p => ?_) ?_
  · go_big_quiet_op
    exact ⟨_, fun q => Calls.ext_of (HQ14.out q.x), rfl⟩
  simp only [Act.put, List.setIfInBounds_toArray, List.set]
  refine upW_call (by rfl) (by rfl) (.agg (WB c15)) _ rfl (by simp) (fun p => ?_) ?_
  · go_big_quiet_op
    exact ⟨_, fun q => Calls.ext_of (HQ16.out q.x), rfl⟩
  simp only [Act.put, List.setIfInBounds_toArray, List.set]
  refine upW_late (by rfl) (.bool true) (fun w => run_neW4 _ _ _ _ rfl c9.val c15.val rfl rfl c9.lt256 c15.lt256 true (by simp only [HE5.out, HE7.out, HE9.out, HE11.out, HE13.out, HE15.out]; exact HON.out) w) ?_
  simp only [Act.put, List.setIfInBounds_toArray, List.set]
  refine upW_nil ⟨List.forall_mem_nil _, fun M2 wr3 hM2 hne hbr3 => ?_⟩
  simp only [List.foldr]
  clear hM2 hne M2
  replace HX0 := Lib.hid (HX0.out.ext hbr3)
  replace HX1 := Lib.hid (HX1.out.ext hbr3)
  replace HX2 := Lib.hid (HX2.out.ext hbr3)
  replace HB1x0 := Lib.hid (HB1x0.out.ext hbr3)
  replace HB1x1 := Lib.hid (HB1x1.out.ext hbr3)
  replace HB2x0 := Lib.hid (HB2x0.out.ext hbr3)
  replace HB2x1 := Lib.hid (HB2x1.out.ext hbr3)
  replace HB := Lib.hid (HB.out.trans (hbr3.mono (show N ≤ _ by have := HB.out.size; have := HN.out; omega)))
  clear hbr3
  go_upto_region 4 with fail
  refine wp_region_seq 1 ?_
  simp only [List.take_succ_cons, List.take_zero, List.drop_succ_cons, List.drop_zero]
  refine upW_late (by rfl) (.agg (PB 0)) (fun w => run_built _ _ _ _ rfl _ (by kernel_rfl) w) ?_
  simp only [Act.put, List.setIfInBounds_toArray, List.set]
  refine upW_nil (fun wr4 hbr4 => ?_)
  replace HX0 := Lib.hid (HX0.out.ext hbr4)
  replace HX1 := Lib.hid (HX1.out.ext hbr4)
  replace HX2 := Lib.hid (HX2.out.ext hbr4)
  replace HB1x0 := Lib.hid (HB1x0.out.ext hbr4)
  replace HB1x1 := Lib.hid (HB1x1.out.ext hbr4)
  replace HB2x0 := Lib.hid (HB2x0.out.ext hbr4)
  replace HB2x1 := Lib.hid (HB2x1.out.ext hbr4)
  replace HB := Lib.hid (HB.out.trans (hbr4.mono (show N ≤ _ by have := HB.out.size; have := HN.out; omega)))
  clear hbr4
  refine wpList_store_ct rfl 23 _ _ rfl (N + 1 + 1) (PB 0) rfl rfl 23 (PB 0) 32 HX2.out (by kernel_rfl) (PB_rw 0) (PB_rw 0) rfl (fun wr5 hSwr5 hOwr5 hWwr5 => ?_)
  replace HX2 := Lib.hid hSwr5
  replace HB := Lib.hid (hWwr5 _ _ HB.out (by omega))
  replace HX0 := Lib.hid (HX0.out.other (hOwr5 _ (by omega)))
  replace HX1 := Lib.hid (HX1.out.other (hOwr5 _ (by omega)))
  replace HB1x0 := Lib.hid (HB1x0.out.other (hOwr5 _ (by omega)))
  replace HB1x1 := Lib.hid (HB1x1.out.other (hOwr5 _ (by omega)))
  replace HB2x0 := Lib.hid (HB2x0.out.other (hOwr5 _ (by omega)))
  replace HB2x1 := Lib.hid (HB2x1.out.other (hOwr5 _ (by omega)))
  clear hSwr5 hOwr5 hWwr5
  go_wp2
  refine bodyPost_ret (results_ct_slot (p := 4) (q := 5) (by rfl) _ _ (N + 1 + 1) 23 (PB 0) 32 _ (.bool false) (by rfl) HX2.out (PB_rw 0) Try.underlying23 rfl (by kernel_rfl) rfl) rfl ⟨by first | rfl | (simp only [HE5.out, HE7.out, HE9.out, HE11.out, HE13.out, HE15.out]), by rw [HN.out]; exact HB.out⟩
set_option maxRecDepth 100000 in
set_option maxHeartbeats 1000000 in
theorem OfD_ok (n m : Nat) (hn : n < 115792089237316195423570985008687907853269984665640564039457584007913129639936) (hm : m < 115792089237316195423570985008687907853269984665640564039457584007913129639936) (hon : decide (fp m * fp m - fp n * fp n = 1 + cD * (fp n * fp n * (fp m * fp m))) = true) (w : World) :
    Calls Try.prog 30 #[.agg (PB n), .agg (PB m)] w fun e w' => e = .returned (.tuple #[.agg (PB (encXY (fp n) (fp m))), .bool true]) ∧ Below w.heap.size w w' := by
  have HLn := Lib.hid hn
  have HLm := Lib.hid hm
  have HON := Lib.hid (show (!decide ((fp m * fp m - fp n * fp n).val = (1 + cD * (fp n * fp n * (fp m * fp m))).val)) = false by
    have e : decide ((fp m * fp m - fp n * fp n).val = (1 + cD * (fp n * fp n * (fp m * fp m))).val) = true := by
      rw [← hon, Bool.eq_iff_iff, decide_eq_true_eq, decide_eq_true_eq]
      exact ⟨fun h => Fin.ext h, fun h => by rw [h]⟩
    rw [e]; rfl)
  clear hn hm hon
  have HQ1 := Lib.hid (fun w => PB.from n HLn.out w)
  have HQ2 := Lib.hid (fun w => WN.rest n HLn.out w)
  have HQ3 := Lib.hid (fun w => PB.from m HLm.out w)
  have HQ4 := Lib.hid (fun w => WN.rest m HLm.out w)
  obtain ⟨c5, hc5⟩ : ∃ zq : Fp, zq = (fp n) * (fp n) := ⟨_, rfl⟩
  have HE5 := Lib.hid hc5
  clear hc5
  have HQ6 := Lib.hid (fun w => WB.mul (fp n) (fp n) w)
  rw [← HE5.out] at HQ6
  obtain ⟨c7, hc7⟩ : ∃ zq : Fp, zq = (fp m) * (fp m) := ⟨_, rfl⟩
  have HE7 := Lib.hid hc7
  clear hc7
  have HQ8 := Lib.hid (fun w => WB.mul (fp m) (fp m) w)
  rw [← HE7.out] at HQ8
  obtain ⟨c9, hc9⟩ : ∃ zq : Fp, zq = c7 - c5 := ⟨_, rfl⟩
  have HE9 := Lib.hid hc9
  clear hc9
  have HQ10 := Lib.hid (fun w => WB.sub c7 c5 w)
  rw [← HE9.out] at HQ10
  obtain ⟨c11, hc11⟩ : ∃ zq : Fp, zq = c5 * c7 := ⟨_, rfl⟩
  have HE11 := Lib.hid hc11
  clear hc11
  have HQ12 := Lib.hid (fun w => WB.mul c5 c7 w)
  rw [← HE11.out] at HQ12
  obtain ⟨c13, hc13⟩ : ∃ zq : Fp, zq = cD * c11 := ⟨_, rfl⟩
  have HE13 := Lib.hid hc13
  clear hc13
  have HQ14 := Lib.hid (fun w => WB.mul cD c11 w)
  rw [← HE13.out] at HQ14
  obtain ⟨c15, hc15⟩ : ∃ zq : Fp, zq = 1 + c13 := ⟨_, rfl⟩
  have HE15 := Lib.hid hc15
  clear hc15
  have HQ16 := Lib.hid (fun w => WB.add 1 c13 w)
  rw [← HE15.out] at HQ16
  obtain ⟨c17, hc17⟩ : ∃ zq : Fp, zq = (fp n) * (fp m) := ⟨_, rfl⟩
  have HE17 := Lib.hid hc17
  clear hc17
  have HQ18 := Lib.hid (fun w => flatP_any (fp n) (fp m) w)
  rw [← HE17.out] at HQ18
  obtain ⟨c19, hc19⟩ : ∃ zq : Fp, zq = (fp n) * finv 1 := ⟨_, rfl⟩
  have HE19 := Lib.hid hc19
  clear hc19
  obtain ⟨c20, hc20⟩ : ∃ zq : Fp, zq = (fp m) * finv 1 := ⟨_, rfl⟩
  have HE20 := Lib.hid hc20
  clear hc20
  have HQ21 := Lib.hid (fun w => packedP_any (fp n) (fp m) 1 c17 w)
  rw [← HE19.out, ← HE20.out] at HQ21
  have hz0 := zBy
  have hz1 := zWo
  go_enter Try.func30, Try.ntmps30
  go_upto_region 1 with fail
  generalize hW1 : World.alloc _ _ = W1
  obtain ⟨N, hN⟩ : ∃ n, w.heap.size = n := ⟨_, rfl⟩
  have HX0 := Lib.hid (show CT W1 N 23 (PB n) by subst hW1; rw [← hN]; exact (allocs3_at w _ _ _).1)
  have HX1 := Lib.hid (show CT W1 (N + 1) 23 (PB m) by subst hW1; rw [← hN]; exact (allocs3_at w _ _ _).2.1)
  have HX2 := Lib.hid (show CT W1 (N + 1 + 1) 23 (PB 0) by subst hW1; rw [← hN]; exact (allocs3_at w _ _ _).2.2)
  have HB := Lib.hid (show Below N w W1 by subst hW1; rw [← hN]; exact allocs3_below w _ _ _)
  have HN := Lib.hid hN
  rw [hN]
  clear hW1 hN
  refine wp_region_whole [0, 1, 2, 3, 4, 5] [⟨6, _, 86, (WB 0), 6, 8, _, 86, 12, (WB (fp n))⟩, ⟨7, _, 86, (WB 0), 7, 9, _, 86, 15, (WB (fp m))⟩] [9, 8, 7, 6] (by kernel_rfl) (by kernel_rfl) (List.forall_mem_cons.2 ⟨⟨⟨rfl, rfl, rfl, fun a w => alloc_run _ _ zWo a _ rfl w⟩, rfl, rfl, rfl, rfl, (WB_rw (fp n)).info (by kernel_rfl), (WB_rw 0).same (WB_rw (fp n)), (WB_rw (fp n)).one⟩, (List.forall_mem_cons.2 ⟨⟨⟨rfl, rfl, rfl, fun a w => alloc_run _ _ zWo a _ rfl w⟩, rfl, rfl, rfl, rfl, (WB_rw (fp m)).info (by kernel_rfl), (WB_rw 0).same (WB_rw (fp m)), (WB_rw (fp m)).one⟩, (List.forall_mem_nil _)⟩)⟩) rfl ?_
  simp only [List.foldl, List.eraseIdx_cons_succ, List.eraseIdx_cons_zero]
  refine upW_val (by rfl) (by rfl) (by rfl) (fun K hK => quiet_load_ct _ _ rfl N rfl 23 (PB n) 32 (PB_rw n) _ HX0.out Try.underlying23 rfl (by kernel_rfl) (hK _ ?_))
  simp only [Act.put, List.setIfInBounds_toArray, List.set]
  refine upW_call (by rfl) (by rfl) (.agg (WN n)) _ rfl (by simp) (fun p => ?_) ?_
  · go_big_quiet_op
    exact ⟨_, fun q => Calls.ext_of (HQ1.out q.x), rfl⟩
  simp only [Act.put, List.setIfInBounds_toArray, List.set]
  refine upW_call (by rfl) (by rfl) (.agg (WB (fp n))) _ rfl (by simp) (fun p => ?_) ?_
  · go_big_quiet_op
    exact ⟨_, fun q => Calls.ext_of (HQ2.out q.x), rfl⟩
  simp only [Act.put, List.setIfInBounds_toArray, List.set]
  refine upW_val (by rfl) (by rfl) (by rfl) (fun K hK => quiet_load_ct _ _ rfl (N + 1) rfl 23 (PB m) 32 (PB_rw m) _ HX1.out Try.underlying23 rfl (by kernel_rfl) (hK _ ?_))
  simp only [Act.put, List.setIfInBounds_toArray, List.set]
  refine upW_call (by rfl) (by rfl) (.agg (WN m)) _ rfl (by simp) (fun p => ?_) ?_
  · go_big_quiet_op
    exact ⟨_, fun q => Calls.ext_of (HQ3.out q.x), rfl⟩
  simp only [Act.put, List.setIfInBounds_toArray, List.set]
  refine upW_call (by rfl) (by rfl) (.agg (WB (fp m))) _ rfl (by simp) (fun p => ?_) ?_
  · go_big_quiet_op
    exact ⟨_, fun q => Calls.ext_of (HQ4.out q.x), rfl⟩
  simp only [Act.put, List.setIfInBounds_toArray, List.set]
  refine upW_nil ⟨(List.forall_mem_cons.2 ⟨rfl, (List.forall_mem_cons.2 ⟨rfl, (List.forall_mem_nil _)⟩)⟩), fun M wr1 hM hne hbr1 => ?_⟩
  have hm0 := hM _ (List.mem_cons_self ..)
  have hm1 := hM _ (List.mem_cons_of_mem _ (List.mem_cons_self ..))
  have hn1x01 : M 6 ≠ M 7 := hne _ (List.mem_cons_self ..) _ (List.mem_cons_of_mem _ (List.mem_cons_self ..)) (show (6 : Nat) ≠ 7 by decide)
  clear hM hne
  simp only [List.foldr, pS, Act.put, List.setIfInBounds_toArray, List.set]
  obtain ⟨B1x0, hB1x0⟩ : ∃ m, M 6 = m := ⟨_, rfl⟩
  have HB1x0 := Lib.hid (show CT wr1 B1x0 86 (WB (fp n)) by rw [← hB1x0]; exact hm0.2)
  have hlB1x0X0 : N < B1x0 := by rw [← hB1x0]; exact Nat.lt_of_lt_of_le HX0.out.lt hm0.1
  have hlB1x0X1 : (N + 1) < B1x0 := by rw [← hB1x0]; exact Nat.lt_of_lt_of_le HX1.out.lt hm0.1
  have hlB1x0X2 : (N + 1 + 1) < B1x0 := by rw [← hB1x0]; exact Nat.lt_of_lt_of_le HX2.out.lt hm0.1
  have hNB1x0 : N ≤ B1x0 := by rw [← hB1x0]; exact Nat.le_trans (by have := HB.out.size; have := HN.out; omega) hm0.1
  obtain ⟨B1x1, hB1x1⟩ : ∃ m, M 7 = m := ⟨_, rfl⟩
  have HB1x1 := Lib.hid (show CT wr1 B1x1 86 (WB (fp m)) by rw [← hB1x1]; exact hm1.2)
  have hlB1x1X0 : N < B1x1 := by rw [← hB1x1]; exact Nat.lt_of_lt_of_le HX0.out.lt hm1.1
  have hlB1x1X1 : (N + 1) < B1x1 := by rw [← hB1x1]; exact Nat.lt_of_lt_of_le HX1.out.lt hm1.1
  have hlB1x1X2 : (N + 1 + 1) < B1x1 := by rw [← hB1x1]; exact Nat.lt_of_lt_of_le HX2.out.lt hm1.1
  have hNB1x1 : N ≤ B1x1 := by rw [← hB1x1]; exact Nat.le_trans (by have := HB.out.size; have := HN.out; omega) hm1.1
  rw [hB1x0, hB1x1] at hn1x01
  rw [hB1x0, hB1x1]
  clear hm0 hB1x0 hm1 hB1x1
  replace HX0 := Lib.hid (HX0.out.ext hbr1)
  replace HX1 := Lib.hid (HX1.out.ext hbr1)
  replace HX2 := Lib.hid (HX2.out.ext hbr1)
  replace HB := Lib.hid (HB.out.trans (hbr1.mono (show N ≤ _ by have := HB.out.size; have := HN.out; omega)))
  clear hbr1
  go_upto_region 2 with fail
  refine wp_region_whole [0, 1, 2, 3, 4, 5] [⟨6, _, 86, (WB 0), 8, 8, _, 86, 18, (WB c5)⟩, ⟨7, _, 86, (WB 0), 9, 9, _, 86, 21, (WB c7)⟩] [9, 8, 7, 6] (by kernel_rfl) (by kernel_rfl) (List.forall_mem_cons.2 ⟨⟨⟨rfl, rfl, rfl, fun a w => alloc_run _ _ zWo a _ rfl w⟩, rfl, rfl, rfl, rfl, (WB_rw c5).info (by kernel_rfl), (WB_rw 0).same (WB_rw c5), (WB_rw c5).one⟩, (List.forall_mem_cons.2 ⟨⟨⟨rfl, rfl, rfl, fun a w => alloc_run _ _ zWo a _ rfl w⟩, rfl, rfl, rfl, rfl, (WB_rw c7).info (by kernel_rfl), (WB_rw 0).same (WB_rw c7), (WB_rw c7).one⟩, (List.forall_mem_nil _)⟩)⟩) rfl ?_
  simp only [List.foldl, List.eraseIdx_cons_succ, List.eraseIdx_cons_zero]
  refine upW_val (by rfl) (by rfl) (by rfl) (fun K hK => quiet_load_ct _ _ rfl B1x0 rfl 86 (WB (fp n)) 4 (WB_rw (fp n)) _ HB1x0.out Try.underlying86 rfl (by kernel_rfl) (hK _ ?_))
  simp only [Act.put, List.setIfInBounds_toArray, List.set]
  refine upW_val (by rfl) (by rfl) (by rfl) (fun K hK => quiet_load_ct _ _ rfl B1x0 rfl 86 (WB (fp n)) 4 (WB_rw (fp n)) _ HB1x0.out Try.underlying86 rfl (by kernel_rfl) (hK _ ?_))
  simp only [Act.put, List.setIfInBounds_toArray, List.set]
  refine upW_call (by rfl) (by rfl) (.agg (WB c5)) _ rfl (by simp) (fun p => ?_) ?_
  · go_big_quiet_op
    exact ⟨_, fun q => Calls.ext_of (HQ6.out q.x), rfl⟩
  simp only [Act.put, List.setIfInBounds_toArray, List.set]
  refine upW_val (by rfl) (by rfl) (by rfl) (fun K hK => quiet_load_ct _ _ rfl B1x1 rfl 86 (WB (fp m)) 4 (WB_rw (fp m)) _ HB1x1.out Try.underlying86 rfl (by kernel_rfl) (hK _ ?_))
  simp only [Act.put, List.setIfInBounds_toArray, List.set]
  refine upW_val (by rfl) (by rfl) (by rfl) (fun K hK => quiet_load_ct _ _ rfl B1x1 rfl 86 (WB (fp m)) 4 (WB_rw (fp m)) _ HB1x1.out Try.underlying86 rfl (by kernel_rfl) (hK _ ?_))
  simp only [Act.put, List.setIfInBounds_toArray, List.set]
  refine upW_call (by rfl) (by rfl) (.agg (WB c7)) _ rfl (by simp) (fun p => ?_) ?_
  · go_big_quiet_op
    exact ⟨_, fun q => Calls.ext_of (HQ8.out q.x), rfl⟩
  simp only [Act.put, List.setIfInBounds_toArray, List.set]
  refine upW_nil ⟨(List.forall_mem_cons.2 ⟨rfl, (List.forall_mem_cons.2 ⟨rfl, (List.forall_mem_nil _)⟩)⟩), fun M wr2 hM hne hbr2 => ?_⟩
  have hm0 := hM _ (List.mem_cons_self ..)
  have hm1 := hM _ (List.mem_cons_of_mem _ (List.mem_cons_self ..))
  have hn2x01 : M 6 ≠ M 7 := hne _ (List.mem_cons_self ..) _ (List.mem_cons_of_mem _ (List.mem_cons_self ..)) (show (6 : Nat) ≠ 7 by decide)
  clear hM hne
  simp only [List.foldr, pS, Act.put, List.setIfInBounds_toArray, List.set]
  obtain ⟨B2x0, hB2x0⟩ : ∃ m, M 6 = m := ⟨_, rfl⟩
  have HB2x0 := Lib.hid (show CT wr2 B2x0 86 (WB c5) by rw [← hB2x0]; exact hm0.2)
  have hlB2x0X0 : N < B2x0 := by rw [← hB2x0]; exact Nat.lt_of_lt_of_le HX0.out.lt hm0.1
  have hlB2x0X1 : (N + 1) < B2x0 := by rw [← hB2x0]; exact Nat.lt_of_lt_of_le HX1.out.lt hm0.1
  have hlB2x0X2 : (N + 1 + 1) < B2x0 := by rw [← hB2x0]; exact Nat.lt_of_lt_of_le HX2.out.lt hm0.1
  have hlB2x0B1x0 : B1x0 < B2x0 := by rw [← hB2x0]; exact Nat.lt_of_lt_of_le HB1x0.out.lt hm0.1
  have hlB2x0B1x1 : B1x1 < B2x0 := by rw [← hB2x0]; exact Nat.lt_of_lt_of_le HB1x1.out.lt hm0.1
  have hNB2x0 : N ≤ B2x0 := by rw [← hB2x0]; exact Nat.le_trans (by have := HB.out.size; have := HN.out; omega) hm0.1
  obtain ⟨B2x1, hB2x1⟩ : ∃ m, M 7 = m := ⟨_, rfl⟩
  have HB2x1 := Lib.hid (show CT wr2 B2x1 86 (WB c7) by rw [← hB2x1]; exact hm1.2)
  have hlB2x1X0 : N < B2x1 := by rw [← hB2x1]; exact Nat.lt_of_lt_of_le HX0.out.lt hm1.1
  have hlB2x1X1 : (N + 1) < B2x1 := by rw [← hB2x1]; exact Nat.lt_of_lt_of_le HX1.out.lt hm1.1
  have hlB2x1X2 : (N + 1 + 1) < B2x1 := by rw [← hB2x1]; exact Nat.lt_of_lt_of_le HX2.out.lt hm1.1
  have hlB2x1B1x0 : B1x0 < B2x1 := by rw [← hB2x1]; exact Nat.lt_of_lt_of_le HB1x0.out.lt hm1.1
  have hlB2x1B1x1 : B1x1 < B2x1 := by rw [← hB2x1]; exact Nat.lt_of_lt_of_le HB1x1.out.lt hm1.1
  have hNB2x1 : N ≤ B2x1 := by rw [← hB2x1]; exact Nat.le_trans (by have := HB.out.size; have := HN.out; omega) hm1.1
  rw [hB2x0, hB2x1] at hn2x01
  rw [hB2x0, hB2x1]
  clear hm0 hB2x0 hm1 hB2x1
  replace HX0 := Lib.hid (HX0.out.ext hbr2)
  replace HX1 := Lib.hid (HX1.out.ext hbr2)
  replace HX2 := Lib.hid (HX2.out.ext hbr2)
  replace HB1x0 := Lib.hid (HB1x0.out.ext hbr2)
  replace HB1x1 := Lib.hid (HB1x1.out.ext hbr2)
  replace HB := Lib.hid (HB.out.trans (hbr2.mono (show N ≤ _ by have := HB.out.size; have := HN.out; omega)))
  clear hbr2
  go_upto_region 3 with fail
  refine wp_region_whole [0, 1, 2, 3, 4, 5, 6, 7, 8, 9, 10] [] [] (by kernel_rfl) (by kernel_rfl) (List.forall_mem_nil _) rfl ?_
  simp only [List.foldl]
  refine upW_val (by rfl) (by rfl) (by rfl) (fun K hK => quiet_load_ct _ _ rfl B2x1 rfl 86 (WB c7) 4 (WB_rw c7) _ HB2x1.out Try.underlying86 rfl (by kernel_rfl) (hK _ ?_))
  simp only [Act.put, List.setIfInBounds_toArray, List.set]
  refine upW_val (by rfl) (by rfl) (by rfl) (fun K hK => quiet_load_ct _ _ rfl B2x0 rfl 86 (WB c5) 4 (WB_rw c5) _ HB2x0.out Try.underlying86 rfl (by kernel_rfl) (hK _ ?_))
  simp only [Act.put, List.setIfInBounds_toArray, List.set]
  refine upW_call (by rfl) (by rfl) (.agg (WB c9)) _ rfl (by simp) (fun p => ?_) ?_
  · go_big_quiet_op
    exact ⟨_, fun q => Calls.ext_of (HQ10.out q.x), rfl⟩
  simp only [Act.put, List.setIfInBounds_toArray, List.set]
  refine upW_late (by rfl) (.agg (WB 1)) (fun w => run_built _ _ _ _ rfl _ (by kernel_rfl) w) ?_
  simp only [Act.put, List.setIfInBounds_toArray, List.set]
  refine upW_call (by rfl) (by rfl) (.agg (WB cD)) _ rfl (by simp) (fun p => ?_) ?_
  · go_big_quiet_op
    exact ⟨_, fun q => Calls.ext_of (dee_any q.x), rfl⟩
  simp only [Act.put, List.setIfInBounds_toArray, List.set]
  refine upW_val (by rfl) (by rfl) (by rfl) (fun K hK => quiet_load_ct _ _ rfl B2x0 rfl 86 (WB c5) 4 (WB_rw c5) _ HB2x0.out Try.underlying86 rfl (by kernel_rfl) (hK _ ?_))
  simp only [Act.put, List.setIfInBounds_toArray, List.set]
  refine upW_val (by rfl) (by rfl) (by rfl) (fun K hK => quiet_load_ct _ _ rfl B2x1 rfl 86 (WB c7) 4 (WB_rw c7) _ HB2x1.out Try.underlying86 rfl (by kernel_rfl) (hK _ ?_))
  simp only [Act.put, List.setIfInBounds_toArray, List.set]
  refine upW_call (by rfl) (by rfl) (.agg (WB c11)) _ rfl (by simp) (fun p => ?_) ?_
  · go_big_quiet_op
    exact ⟨_, fun q => Calls.ext_of (HQ12.out q.x), rfl⟩
  simp only [Act.put, List.setIfInBounds_toArray, List.set]
  refine upW_call (by rfl) (by rfl) (.agg (WB c13)) _ rfl (by simp) (fun p => ?_) ?_
  · go_big_quiet_op
    exact ⟨_, fun q => Calls.ext_of (HQ14.out q.x), rfl⟩
  simp only [Act.put, List.setIfInBounds_toArray, List.set]
  refine upW_call (by rfl) (by rfl) (.agg (WB c15)) _ rfl (by simp) (fun p => ?_) ?_
  · go_big_quiet_op
    exact ⟨_, fun q => Calls.ext_of (HQ16.out q.x), rfl⟩
  simp only [Act.put, List.setIfInBounds_toArray, List.set]
  refine upW_late (by rfl) (.bool false) (fun w => run_neW4 _ _ _ _ rfl c9.val c15.val rfl rfl c9.lt256 c15.lt256 false (by simp only [HE5.out, HE7.out, HE9.out, HE11.out, HE13.out, HE15.out]; exact HON.out) w) ?_
  simp only [Act.put, List.setIfInBounds_toArray, List.set]
  refine upW_nil ⟨List.forall_mem_nil _, fun M2 wr3 hM2 hne hbr3 => ?_⟩
  simp only [List.foldr]
  clear hM2 hne M2
  replace HX0 := Lib.hid (HX0.out.ext hbr3)
  replace HX1 := Lib.hid (HX1.out.ext hbr3)
  replace HX2 := Lib.hid (HX2.out.ext hbr3)
  replace HB1x0 := Lib.hid (HB1x0.out.ext hbr3)
  replace HB1x1 := Lib.hid (HB1x1.out.ext hbr3)
  replace HB2x0 := Lib.hid (HB2x0.out.ext hbr3)
  replace HB2x1 := Lib.hid (HB2x1.out.ext hbr3)
  replace HB := Lib.hid (HB.out.trans (hbr3.mono (show N ≤ _ by have := HB.out.size; have := HN.out; omega)))
  clear hbr3
  go_upto_region 5 with fail
  refine wp_region_seq 4 ?_
  simp only [List.take_succ_cons, List.take_zero, List.drop_succ_cons, List.drop_zero]
  refine upW_val (by rfl) (by rfl) (by rfl) (fun K hK => quiet_load_ct _ _ rfl B1x0 rfl 86 (WB (fp n)) 4 (WB_rw (fp n)) _ HB1x0.out Try.underlying86 rfl (by kernel_rfl) (hK _ ?_))
  simp only [Act.put, List.setIfInBounds_toArray, List.set]
  refine upW_val (by rfl) (by rfl) (by rfl) (fun K hK => quiet_load_ct _ _ rfl B1x1 rfl 86 (WB (fp m)) 4 (WB_rw (fp m)) _ HB1x1.out Try.underlying86 rfl (by kernel_rfl) (hK _ ?_))
  simp only [Act.put, List.setIfInBounds_toArray, List.set]
  refine upW_call (by rfl) (by rfl) (.agg (WR (fp n) (fp m) 1 c17)) _ rfl (by simp) (fun p => ?_) ?_
  · go_big_quiet_op
    exact ⟨_, fun q => Calls.ext_of (HQ18.out q.x), rfl⟩
  simp only [Act.put, List.setIfInBounds_toArray, List.set]
  refine upW_call (by rfl) (by rfl) (.agg (PB (encXY c19 c20))) _ rfl (by simp) (fun p => ?_) ?_
  · go_big_quiet_op
    exact ⟨_, fun q => Calls.ext_of (HQ21.out q.x), rfl⟩
  simp only [Act.put, List.setIfInBounds_toArray, List.set]
  refine upW_nil (fun wr4 hbr4 => ?_)
  replace HX0 := Lib.hid (HX0.out.ext hbr4)
  replace HX1 := Lib.hid (HX1.out.ext hbr4)
  replace HX2 := Lib.hid (HX2.out.ext hbr4)
  replace HB1x0 := Lib.hid (HB1x0.out.ext hbr4)
  replace HB1x1 := Lib.hid (HB1x1.out.ext hbr4)
  replace HB2x0 := Lib.hid (HB2x0.out.ext hbr4)
  replace HB2x1 := Lib.hid (HB2x1.out.ext hbr4)
  replace HB := Lib.hid (HB.out.trans (hbr4.mono (show N ≤ _ by have := HB.out.size; have := HN.out; omega)))
  clear hbr4
  refine wpList_store_ct rfl 23 _ _ rfl (N + 1 + 1) (PB (encXY c19 c20)) rfl rfl 23 (PB 0) 32 HX2.out (by kernel_rfl) (PB_rw 0) (PB_rw (encXY c19 c20)) rfl (fun wr5 hSwr5 hOwr5 hWwr5 => ?_)
  replace HX2 := Lib.hid hSwr5
  replace HB := Lib.hid (hWwr5 _ _ HB.out (by omega))
  replace HX0 := Lib.hid (HX0.out.other (hOwr5 _ (by omega)))
  replace HX1 := Lib.hid (HX1.out.other (hOwr5 _ (by omega)))
  replace HB1x0 := Lib.hid (HB1x0.out.other (hOwr5 _ (by omega)))
  replace HB1x1 := Lib.hid (HB1x1.out.other (hOwr5 _ (by omega)))
  replace HB2x0 := Lib.hid (HB2x0.out.other (hOwr5 _ (by omega)))
  replace HB2x1 := Lib.hid (HB2x1.out.other (hOwr5 _ (by omega)))
  clear hSwr5 hOwr5 hWwr5
  go_wp2
  refine bodyPost_ret (results_ct_slot (p := 4) (q := 5) (by rfl) _ _ (N + 1 + 1) 23 (PB (encXY c19 c20)) 32 _ (.bool true) (by rfl) HX2.out (PB_rw (encXY c19 c20)) Try.underlying23 rfl (by kernel_rfl) rfl) rfl ⟨congrArg (fun k => Ending.returned (.tuple #[.agg (PB k), .bool true])) (by simp only [HE5.out, HE7.out, HE9.out, HE11.out, HE13.out, HE15.out, HE17.out, HE19.out, HE20.out]; rw [finv_one, mul_one', mul_one']), by rw [HN.out]; exact HB.out⟩
end Go.Proofs.Ytfmclkmmkceldaa
