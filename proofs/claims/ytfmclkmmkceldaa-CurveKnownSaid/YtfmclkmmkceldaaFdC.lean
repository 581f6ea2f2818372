/-
  The constants of package field; what is below the prime.
  Conditions: none.
-/
import Derived.Test.YtfmclkmmkceldaaFdB
namespace Go.Proofs.Ytfmclkmmkceldaa
open Go.RowKit

theorem below_set (w : World) (cs S : Array Value) (t : TypeId) : Below w.heap.size w ((w.alloc (.cells cs t)).setRow w.heap.size S) := Below.setRow ((Below.refl _ w).alloc (Nat.le_refl _) _) (Nat.le_refl _) _
set_option maxRecDepth 100000 in
set_option maxHeartbeats 1000000 in
theorem below255_19 (w : World) : Calls Try.prog 118 #[.int .i64 255, .int .u64 19] w fun e w' => e = .returned (.agg (nums .u64 (w4 57896044618658097711785492504343953926634992332820282019728792003956564819949))) ∧ Below w.heap.size w w' := by
  have hz := zC
  have HS := Lib.hid (sC 57896044618658097711785492504343953926634992332820282019728792003956564819949)
  go_enter Try.func118, Try.ntmps118
  go_wp2_with (first
    | (refine wpList_build' rfl 70 _ rfl (nums .u64 (w4 57896044618658097711785492504343953926634992332820282019728792003956564819949)) (by kernel_rfl) ?_)
    | (refine wpList_store_row rfl 70 _ _ rfl w.heap.size (nums .u64 (w4 57896044618658097711785492504343953926634992332820282019728792003956564819949)) rfl rfl 70 _ (Go.heap_alloc_new _ _) HS.out ?hold (nums_one _ _) ?_))
  case hold => rw [size_nums, size_nums, zer_len]; rfl
  exact bodyPost_ret (results_cell_row (by rfl) _ _ w.heap.size 70 (nums .u64 (w4 57896044618658097711785492504343953926634992332820282019728792003956564819949)) (0, 0) _ (by rfl) (setRow_heap _ _ _ _ _ _ (Go.heap_alloc_new _ _)) Try.underlying70 rfl HS.out) rfl ⟨rfl, below_set _ _ _ _⟩
set_option maxRecDepth 100000 in
set_option maxHeartbeats 1000000 in
theorem below255_21 (w : World) : Calls Try.prog 118 #[.int .i64 255, .int .u64 21] w fun e w' => e = .returned (.agg (nums .u64 (w4 57896044618658097711785492504343953926634992332820282019728792003956564819947))) ∧ Below w.heap.size w w' := by
  have hz := zC
  have HS := Lib.hid (sC 57896044618658097711785492504343953926634992332820282019728792003956564819947)
  go_enter Try.func118, Try.ntmps118
  go_wp2_with (first
    | (refine wpList_build' rfl 70 _ rfl (nums .u64 (w4 57896044618658097711785492504343953926634992332820282019728792003956564819947)) (by kernel_rfl) ?_)
    | (refine wpList_store_row rfl 70 _ _ rfl w.heap.size (nums .u64 (w4 57896044618658097711785492504343953926634992332820282019728792003956564819947)) rfl rfl 70 _ (Go.heap_alloc_new _ _) HS.out ?hold (nums_one _ _) ?_))
  case hold => rw [size_nums, size_nums, zer_len]; rfl
  exact bodyPost_ret (results_cell_row (by rfl) _ _ w.heap.size 70 (nums .u64 (w4 57896044618658097711785492504343953926634992332820282019728792003956564819947)) (0, 0) _ (by rfl) (setRow_heap _ _ _ _ _ _ (Go.heap_alloc_new _ _)) Try.underlying70 rfl HS.out) rfl ⟨rfl, below_set _ _ _ _⟩
set_option maxRecDepth 100000 in
set_option maxHeartbeats 1000000 in
theorem below252_2 (w : World) : Calls Try.prog 118 #[.int .i64 252, .int .u64 2] w fun e w' => e = .returned (.agg (nums .u64 (w4 7237005577332262213973186563042994240829374041602535252466099000494570602494))) ∧ Below w.heap.size w w' := by
  have hz := zC
  have HS := Lib.hid (sC 7237005577332262213973186563042994240829374041602535252466099000494570602494)
  go_enter Try.func118, Try.ntmps118
  go_wp2_with (first
    | (refine wpList_build' rfl 70 _ rfl (nums .u64 (w4 7237005577332262213973186563042994240829374041602535252466099000494570602494)) (by kernel_rfl) ?_)
    | (refine wpList_store_row rfl 70 _ _ rfl w.heap.size (nums .u64 (w4 7237005577332262213973186563042994240829374041602535252466099000494570602494)) rfl rfl 70 _ (Go.heap_alloc_new _ _) HS.out ?hold (nums_one _ _) ?_))
  case hold => rw [size_nums, size_nums, zer_len]; rfl
  exact bodyPost_ret (results_cell_row (by rfl) _ _ w.heap.size 70 (nums .u64 (w4 7237005577332262213973186563042994240829374041602535252466099000494570602494)) (0, 0) _ (by rfl) (setRow_heap _ _ _ _ _ _ (Go.heap_alloc_new _ _)) Try.underlying70 rfl HS.out) rfl ⟨rfl, below_set _ _ _ _⟩
set_option maxRecDepth 100000 in
set_option maxHeartbeats 1000000 in
theorem below253_5 (w : World) : Calls Try.prog 118 #[.int .i64 253, .int .u64 5] w fun e w' => e = .returned (.agg (nums .u64 (w4 14474011154664524427946373126085988481658748083205070504932198000989141204987))) ∧ Below w.heap.size w w' := by
  have hz := zC
  have HS := Lib.hid (sC 14474011154664524427946373126085988481658748083205070504932198000989141204987)
  go_enter Try.func118, Try.ntmps118
  go_wp2_with (first
    | (refine wpList_build' rfl 70 _ rfl (nums .u64 (w4 14474011154664524427946373126085988481658748083205070504932198000989141204987)) (by kernel_rfl) ?_)
    | (refine wpList_store_row rfl 70 _ _ rfl w.heap.size (nums .u64 (w4 14474011154664524427946373126085988481658748083205070504932198000989141204987)) rfl rfl 70 _ (Go.heap_alloc_new _ _) HS.out ?hold (nums_one _ _) ?_))
  case hold => rw [size_nums, size_nums, zer_len]; rfl
  exact bodyPost_ret (results_cell_row (by rfl) _ _ w.heap.size 70 (nums .u64 (w4 14474011154664524427946373126085988481658748083205070504932198000989141204987)) (0, 0) _ (by rfl) (setRow_heap _ _ _ _ _ _ (Go.heap_alloc_new _ _)) Try.underlying70 rfl HS.out) rfl ⟨rfl, below_set _ _ _ _⟩
set_option maxRecDepth 100000 in
set_option maxHeartbeats 1000000 in
theorem primeR_any (w : World) : Calls Try.prog 119 #[] w fun e w' => e = .returned (.agg (nums .u64 (w4 57896044618658097711785492504343953926634992332820282019728792003956564819949))) ∧ Below w.heap.size w w' := by
  have hz := zR
  have HS := Lib.hid (sR 57896044618658097711785492504343953926634992332820282019728792003956564819949)
  go_enter Try.func119, Try.ntmps119
  go_wp2_with (first
    | (refine wpList_build' rfl 86 _ rfl (nums .u64 (w4 57896044618658097711785492504343953926634992332820282019728792003956564819949)) (by kernel_rfl) ?_)
    | (refine wpList_store_row rfl 86 _ _ rfl w.heap.size (nums .u64 (w4 57896044618658097711785492504343953926634992332820282019728792003956564819949)) rfl rfl 86 _ (Go.heap_alloc_new _ _) HS.out ?hold (nums_one _ _) ?_))
  case hold => rw [size_nums, size_nums, zer_len]; rfl
  exact bodyPost_ret (results_cell_row (by rfl) _ _ w.heap.size 86 (nums .u64 (w4 57896044618658097711785492504343953926634992332820282019728792003956564819949)) (0, 0) _ (by rfl) (setRow_heap _ _ _ _ _ _ (Go.heap_alloc_new _ _)) Try.underlying86 rfl HS.out) rfl ⟨rfl, below_set _ _ _ _⟩
/-- A row in a block that a call left alone is stored into the one made for it. -/
theorem keepRow {w w' : World} {o : Obj} (hb : Below (w.alloc o).heap.size (w.alloc o) w') : w'.heap[w.heap.size]? = some o ∧ Below w.heap.size w w' :=
  ⟨(hb.block w.heap.size (by simp)).trans (Go.heap_alloc_new _ _), ((Below.refl _ w).alloc (Nat.le_refl _) o).trans (hb.mono (by simp))⟩
set_option maxRecDepth 100000 in
set_option maxHeartbeats 1000000 in
theorem primeC_any (w : World) : Calls Try.prog 99 #[] w fun e w' => e = .returned (.agg (nums .u64 (w4 57896044618658097711785492504343953926634992332820282019728792003956564819949))) ∧ Below w.heap.size w w' := by
  have hz := zC
  have HS := Lib.hid (sC 57896044618658097711785492504343953926634992332820282019728792003956564819949)
  go_enter Try.func99, Try.ntmps99
  go_wp2_with fail
  refine (below255_19 _).mono ?_
  rintro e w1 ⟨rfl, hb1⟩
  obtain ⟨hr, hb⟩ := keepRow hb1
  have HR := Lib.hid hr
  have HB := Lib.hid hb
  clear hb1 hr hb hz
  go_wp2_with (refine wpList_store_row rfl 70 _ _ rfl w.heap.size (nums .u64 (w4 57896044618658097711785492504343953926634992332820282019728792003956564819949)) rfl rfl 70 _ HR.out HS.out ?hold (nums_one _ _) ?_)
  case hold => rw [size_nums, size_nums, zer_len]; rfl
  exact bodyPost_ret (results_cell_row (by rfl) _ _ w.heap.size 70 (nums .u64 (w4 57896044618658097711785492504343953926634992332820282019728792003956564819949)) (0, 0) _ (by rfl) (setRow_heap _ _ _ _ _ _ HR.out) Try.underlying70 rfl HS.out) rfl ⟨rfl, Below.setRow HB.out (Nat.le_refl _) _⟩
end Go.Proofs.Ytfmclkmmkceldaa
