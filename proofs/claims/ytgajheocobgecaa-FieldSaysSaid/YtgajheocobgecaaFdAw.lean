/-
  What the laws ask of the package ahead of all else: awake.
  Conditions: none.
-/
import Derived.Test.YtgajheocobgecaaFdZ
namespace Go.Proofs.Ytgajheocobgecaa
open Go.RowKit

theorem fRoot_4 : fRoot 4 = (2, true) := by decide +kernel
theorem get_of (l : List UInt8) (h : l.length = 32) (n i : Nat) (hn : le l = n) (v : UInt8) (hv : (b32 n).getD i 0 = v) : l.getD i 0 = v := by rw [← hv, ← hn, b32_le l h]
set_option maxRecDepth 100000 in
set_option maxHeartbeats 1000000 in
theorem awake_any (w : World) :
    Calls Try.prog 9 #[] w fun e w' => e = .returned (.bool true) ∧ Below w.heap.size w w' := by
  have hz := zN
  obtain ⟨rH1, hrH1⟩ : ∃ r, b32 1 = r := ⟨_, rfl⟩
  have HQH1 : Hid (∀ w, Calls Try.prog 12 #[.int .u64 1] w fun e w' => e = .returned (.agg (byteVals rH1).toArray) ∧ Below w.heap.size w w') := Lib.hid (fun w => by have := Of_any 1 w (by decide); rw [hrH1] at this; exact this)
  have HLH1 := Lib.hid (show rH1.length = 32 by rw [← hrH1]; exact b32_len _)
  have HVH1 := Lib.hid (show le rH1 = 1 by rw [← hrH1]; exact le_b32 _ (by decide))
  clear hrH1
  obtain ⟨rH2, hrH2⟩ : ∃ r, b32 (fSub (le (zerB 32)) (le rH1)) = r := ⟨_, rfl⟩
  have HQH2 := Lib.hid (fun w => Sub_any (zerB 32) rH1 w (zerB_len 32) HLH1.out)
  rw [hrH2] at HQH2
  have HLH2 := Lib.hid (show rH2.length = 32 by rw [← hrH2]; exact b32_len _)
  have HVH2 := Lib.hid (show le rH2 = fSub (le (zerB 32)) (le rH1) by rw [← hrH2]; exact le_b32 _ (lt4 (fSub_lt _ _ )))
  clear hrH2
  obtain ⟨rH3, hrH3⟩ : ∃ r, b32 4 = r := ⟨_, rfl⟩
  have HQH3 : Hid (∀ w, Calls Try.prog 12 #[.int .u64 4] w fun e w' => e = .returned (.agg (byteVals rH3).toArray) ∧ Below w.heap.size w w') := Lib.hid (fun w => by have := Of_any 4 w (by decide); rw [hrH3] at this; exact this)
  have HLH3 := Lib.hid (show rH3.length = 32 by rw [← hrH3]; exact b32_len _)
  have HVH3 := Lib.hid (show le rH3 = 4 by rw [← hrH3]; exact le_b32 _ (by decide))
  clear hrH3
  obtain ⟨rH4, hrH4⟩ : ∃ r, b32 (fRoot (le rH3)).1 = r := ⟨_, rfl⟩
  have HQH4 := Lib.hid (fun w => Root_any rH3 w HLH3.out)
  rw [hrH4, show (fRoot (le rH3)).2 = true from (by rw [HVH3.out, fRoot_4])] at HQH4
  have HLH4 := Lib.hid (show rH4.length = 32 by rw [← hrH4]; exact b32_len _)
  have HVH4 := Lib.hid (show le rH4 = (fRoot (le rH3)).1 by rw [← hrH4]; exact le_b32 _ (lt4 (fRoot_lt _)))
  clear hrH4
  have HQH5 := Lib.hid (fun w => Good_any rH2 w HLH2.out)
  rw [show decide (le rH2 < 57896044618658097711785492504343953926634992332820282019728792003956564819949) = true from (decide_eq_true (by rw [HVH2.out]; exact fSub_lt _ _))] at HQH5
  obtain ⟨rH6, hrH6⟩ : ∃ r, b32 2 = r := ⟨_, rfl⟩
  have HQH6 : Hid (∀ w, Calls Try.prog 12 #[.int .u64 2] w fun e w' => e = .returned (.agg (byteVals rH6).toArray) ∧ Below w.heap.size w w') := Lib.hid (fun w => by have := Of_any 2 w (by decide); rw [hrH6] at this; exact this)
  have HLH6 := Lib.hid (show rH6.length = 32 by rw [← hrH6]; exact b32_len _)
  have HVH6 := Lib.hid (show le rH6 = 2 by rw [← hrH6]; exact le_b32 _ (by decide))
  clear hrH6
  have HB := Lib.hid (Below.refl w.heap.size w)
  go_enter Try.func9, Try.ntmps9
  go_upto_region 1 with fail
  refine wp_region_seq 3 ?_
  simp only [List.take_succ_cons, List.take_zero, List.drop_succ_cons, List.drop_zero]
  refine upW_late (by rfl) (.agg (byteVals (zerB 32)).toArray) (fun w => run_zeroN _ _ rfl w) ?_
  simp only [Act.put, List.setIfInBounds_toArray, List.set]
  refine upW_call (by rfl) (by rfl) (.agg (byteVals rH1).toArray) _ rfl (by simp) (fun p => ?_) ?_
  · go_big_quiet_op
    exact ⟨_, fun q => Calls.ext_of (HQH1.out q.x), rfl⟩
  simp only [Act.put, List.setIfInBounds_toArray, List.set]
  refine upW_call (by rfl) (by rfl) (.agg (byteVals rH2).toArray) _ rfl (by simp) (fun p => ?_) ?_
  · go_big_quiet_op
    exact ⟨_, fun q => Calls.ext_of (HQH2.out q.x), rfl⟩
  simp only [Act.put, List.setIfInBounds_toArray, List.set]
  refine upW_nil (fun ws1 hbs1 => ?_)
  go_wp2_with (refine wpList_store_row rfl 25 _ _ rfl ws1.heap.size ((byteVals rH2).toArray) rfl rfl 25 _ (Go.heap_alloc_new _ _) (sN rH2 HLH2.out) ?hold (byteVals_one _) (Stop.out ?_))
  case hold => rw [size_byteVals, size_byteVals, zerB_len, HLH2.out]
  generalize hWS : World.setRow _ _ _ = W1
  obtain ⟨M1, hM⟩ : ∃ n, ws1.heap.size = n := ⟨_, rfl⟩
  have HM1 := Lib.hid (show BT W1 M1 25 rH2 by subst hWS; rw [← hM]; exact setRow_heap _ _ _ _ _ _ (Go.heap_alloc_new _ _))
  have HB' := Lib.hid (show Below w.heap.size w W1 by subst hWS; exact Below.setRow ((HB.out.trans (hbs1.mono HB.out.size)).alloc (by have := hbs1.size; have := HB.out.size; omega) _) (by have := hbs1.size; have := HB.out.size; omega) _)
  rw [hM]
  clear hWS hM hbs1 HB 
  have HB := HB'
  clear HB' 
  refine ⟨?_⟩
  go_upto_region 2 with fail
  refine wp_region_seq 5 ?_
  simp only [List.take_succ_cons, List.take_zero, List.drop_succ_cons, List.drop_zero]
  refine upW_call (by rfl) (by rfl) (.agg (byteVals rH3).toArray) _ rfl (by simp) (fun p => ?_) ?_
  · go_big_quiet_op
    exact ⟨_, fun q => Calls.ext_of (HQH3.out q.x), rfl⟩
  simp only [Act.put, List.setIfInBounds_toArray, List.set]
  refine upW_call (by rfl) (by rfl) (.tuple #[.agg (byteVals rH4).toArray, .bool true]) _ rfl (by simp) (fun p => ?_) ?_
  · go_big_quiet_op
    exact ⟨_, fun q => Calls.ext_of (HQH4.out q.x), rfl⟩
  simp only [Act.put, List.setIfInBounds_toArray, List.set]
  refine upW_val (by rfl) (by rfl) (by rfl) ?_
  intro K hK
  go_big_quiet_op
  refine hK _ ?_
  refine upW_late (by rfl) (.agg (byteVals rH4).toArray) (fun _ => rfl) ?_
  simp only [Act.put, List.setIfInBounds_toArray, List.set]
  refine upW_late (by rfl) (.bool true) (fun _ => rfl) ?_
  simp only [Act.put, List.setIfInBounds_toArray, List.set]
  refine upW_nil (fun ws2 hbs2 => ?_)
  go_wp2_with (refine wpList_store_row rfl 25 _ _ rfl ws2.heap.size ((byteVals rH4).toArray) rfl rfl 25 _ (Go.heap_alloc_new _ _) (sN rH4 HLH4.out) ?hold (byteVals_one _) (Stop.out ?_))
  case hold => rw [size_byteVals, size_byteVals, zerB_len, HLH4.out]
  generalize hWS : World.setRow _ _ _ = W2
  obtain ⟨M2, hM⟩ : ∃ n, ws2.heap.size = n := ⟨_, rfl⟩
  have HM2 := Lib.hid (show BT W2 M2 25 rH4 by subst hWS; rw [← hM]; exact setRow_heap _ _ _ _ _ _ (Go.heap_alloc_new _ _))
  have HM1' := Lib.hid (show BT W2 M1 25 rH2 by subst hWS; exact (HM1.out.ext hbs2).other ((setRow_other _ _ _ _ (by rw [hM]; have := (HM1.out.ext hbs2).lt; omega)).trans (Go.heap_alloc_old _ _ (HM1.out.ext hbs2).lt)))
  have HB' := Lib.hid (show Below w.heap.size w W2 by subst hWS; exact Below.setRow ((HB.out.trans (hbs2.mono HB.out.size)).alloc (by have := hbs2.size; have := HB.out.size; omega) _) (by have := hbs2.size; have := HB.out.size; omega) _)
  rw [hM]
  clear hWS hM hbs2 HB HM1
  have HB := HB'
  have HM1 := HM1'
  clear HB' HM1'
  refine ⟨?_⟩
  have c0 := HM1.out.cell (i := 0) (by rw [HLH2.out]; decide)
  rw [get_of rH2 HLH2.out _ 0 HVH2.out 236 (by rw [le_zer, HVH1.out]; decide +kernel)] at c0
  have c1 := HM1.out.cell (i := 31) (by rw [HLH2.out]; decide)
  rw [get_of rH2 HLH2.out _ 31 HVH2.out 127 (by rw [le_zer, HVH1.out]; decide +kernel)] at c1
  have k0 := fun p => Ext.cell (v := .int .u8 236) c0 p
  have k1 := fun p => Ext.cell (v := .int .u8 127) c1 p
  clear c0 c1
  go_wp2_with fail
  refine wp_region_up 20 20 (by kernel_rfl) (by kernel_rfl) (fun _ _ dst _ _ h => by cases dst <;> exact h) ?_
  simp only [List.take_succ_cons, List.take_zero, List.drop_succ_cons, List.drop_zero]
  refine upW_val (by rfl) (by rfl) (by rfl) ?_
  intro K hK
  go_big_quiet_op
  refine hK _ ?_
  refine upW_val (by rfl) (by rfl) (by rfl) ?_
  intro K hK
  go_big_quiet_op
  refine hK _ ?_
  refine upW_val (by rfl) (by rfl) (by rfl) ?_
  intro K hK
  go_big_quiet_op
  refine hK _ ?_
  refine upW_val (by rfl) (by rfl) (by rfl) ?_
  intro K hK
  go_big_quiet_op
  refine hK _ ?_
  refine upW_val (by rfl) (by rfl) (by rfl) ?_
  intro K hK
  go_big_quiet_op
  refine hK _ ?_
  refine upW_val (by rfl) (by rfl) (by rfl) ?_
  intro K hK
  go_big_quiet_op
  refine hK _ ?_
  refine upW_val (by rfl) (by rfl) (by rfl) ?_
  intro K hK
  go_big_quiet_op
  refine hK _ ?_
  refine upW_val (by rfl) (by rfl) (by rfl) ?_
  intro K hK
  go_big_quiet_op
  refine hK _ ?_
  refine upW_val (by rfl) (by rfl) (by rfl) ?_
  intro K hK
  go_big_quiet_op
  refine hK _ ?_
  refine upW_val (by rfl) (by rfl) (by rfl) (fun K hK => quiet_load_row _ _ rfl M1 rfl 25 _ (0, 0) _ HM1.out Try.underlying25 rfl (sN rH2 HLH2.out) (hK _ ?_))
  simp only [Act.put, List.setIfInBounds_toArray, List.set]
  refine upW_call (by rfl) (by rfl) (.bool true) _ rfl (by simp) (fun p => ?_) ?_
  · go_big_quiet_op
    exact ⟨_, fun q => Calls.ext_of (HQH5.out q.x), rfl⟩
  simp only [Act.put, List.setIfInBounds_toArray, List.set]
  refine upW_val (by rfl) (by rfl) (by rfl) ?_
  intro K hK
  go_big_quiet_op
  refine hK _ ?_
  refine upW_val (by rfl) (by rfl) (by rfl) ?_
  intro K hK
  go_big_quiet_op
  refine hK _ ?_
  refine upW_val (by rfl) (by rfl) (by rfl) ?_
  intro K hK
  go_big_quiet_op
  refine hK _ ?_
  refine upW_val (by rfl) (by rfl) (by rfl) ?_
  intro K hK
  go_big_quiet_op
  refine hK _ ?_
  refine upW_val (by rfl) (by rfl) (by rfl) ?_
  intro K hK
  go_big_quiet_op
  refine hK _ ?_
  refine upW_val (by rfl) (by rfl) (by rfl) (fun K hK => quiet_load_row _ _ rfl M2 rfl 25 _ (0, 0) _ HM2.out Try.underlying25 rfl (sN rH4 HLH4.out) (hK _ ?_))
  simp only [Act.put, List.setIfInBounds_toArray, List.set]
  refine upW_call (by rfl) (by rfl) (.agg (byteVals rH6).toArray) _ rfl (by simp) (fun p => ?_) ?_
  · go_big_quiet_op
    exact ⟨_, fun q => Calls.ext_of (HQH6.out q.x), rfl⟩
  simp only [Act.put, List.setIfInBounds_toArray, List.set]
  refine upW_late (by rfl) (.bool true) (fun w => run_eqB _ _ _ _ 25 rfl Try.underlying25 rH4 rH6 rfl rfl HLH4.out HLH6.out (by kernel_rfl) true (decide_eq_true (eq_le HLH4.out HLH6.out (by rw [HVH4.out, HVH6.out, HVH3.out, fRoot_4]))) w) ?_
  simp only [Act.put, List.setIfInBounds_toArray, List.set]
  refine upW_val (by rfl) (by rfl) (by rfl) ?_
  intro K hK
  go_big_quiet_op
  refine hK _ ?_
  refine upW_nil (fun ws3 hbs3 => ?_)
  have HF := Lib.hid (HB.out.trans (hbs3.mono HB.out.size))
  clear hbs3
  go_wp2
  go_ret
  exact ⟨rfl, HF.out⟩
end Go.Proofs.Ytgajheocobgecaa
