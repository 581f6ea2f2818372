/-
  Arrays of bytes that are the same; the document's tables.
  Conditions: none.
-/
import Derived.Test.YtfjkinmmidmjaaaDoorShW
import Derived.Laws.StructEq
import Derived.Deep.WholeRow
import Derived.ChangeKeysEq
namespace Go.Proofs.YtfjkinmmidmjaaaDoor
open Go.RowKit

theorem part_u8 (w : World) (l : List UInt8) (i : Nat) (hi : i < l.length) : (part 5 (byteVals l).toArray (i * 1)).run Tryd.prog w = .ok (.int .u8 (l[i].toNat : Int)) w := by
  have ha : (isAgg 5).run Tryd.prog w = .ok false w := by kernel_rfl
  have hv : (byteVals l).toArray[i * 1]? = some (.int .u8 (l[i].toNat : Int)) := by simp [byteVals, List.getElem?_eq_getElem hi]
  simp only [part, Sem.run_bind, ha, Result.andThen_ok, Bool.false_eq_true, if_false, hv]
  rfl
theorem eqItems_same (w : World) (d : Nat) (l : List UInt8) : ∀ (is : List Nat), (∀ i ∈ is, i < l.length) → (Op.eqItems (d + 1) 5 1 (byteVals l).toArray (byteVals l).toArray is).run Tryd.prog w = .ok true w
  | [], _ => by simp [Op.eqItems]
  | i :: is, h => by
    have hi := h i (by simp)
    simp only [Op.eqItems, Sem.run_bind, part_u8 w l i hi, Result.andThen_ok, run_equalIn_int w d 5 .u8 .u8 _ _ Tryd.underlying5]
    simp only [beq_self_eq_true, Bool.not_true, Bool.false_eq_true, if_false]
    exact eqItems_same w d l is (fun j hj => h j (by simp [hj]))
theorem eq_same (t : TypeId) (n : Nat) (hu : Tryd.prog.underlying t = some (.array n 5)) (l : List UInt8) (hl : l.length = n) (w : World) : (Op.equalIn 10000 t (.agg (byteVals l).toArray) (.agg (byteVals l).toArray)).run Tryd.prog w = .ok true w := by
  obtain ⟨i0, hi, _⟩ := info_parts info_u8
  rw [run_equalIn_array w 9999 _ _ hu hi, show Tryd.prog.cellsOf 5 = 1 by kernel_rfl]
  exact eqItems_same w 9998 l _ (fun i hi => by rw [hl]; simpa using hi)
set_option maxRecDepth 100000 in
set_option maxHeartbeats 1000000 in
theorem rround_any (w : World) : Calls Tryd.prog 19 #[] w fun e w' => e = .returned (.agg (nums .u64 cube)) ∧ Below w.heap.size w w' := by
  have hz : ∀ w, (zeroValue 52).run Tryd.prog w = .ok (.agg (nums .u64 (zer 80))) w := fun w => (zero_of_info (P := Tryd.prog) (t := 52) (v := .agg (nums .u64 (zer 80))) (n := 80) (by kernel_rfl)).1 w
  have HS := Lib.hid (show (Tryd.prog.info? 52).map (·.size) = some (nums .u64 cube).size by kernel_rfl)
  go_enter Tryd.func19, Tryd.ntmps19
  go_wp2_with (first
    | (refine wpList_build' rfl 52 _ rfl (nums .u64 cube) (by kernel_rfl) ?_)
    | (refine wpList_store_row rfl 52 _ _ rfl w.heap.size (nums .u64 cube) rfl rfl 52 _ (Go.heap_alloc_new _ _) HS.out ?hold (nums_one _ _) ?_))
  case hold => rw [size_nums, size_nums, zer_len]; rfl
  refine bodyPost_ret (results_cell_row (by rfl) _ _ w.heap.size 52 (nums .u64 cube) (0, 0) _ (by rfl) (setRow_heap _ _ _ _ _ _ (Go.heap_alloc_new _ _)) Tryd.underlying52 rfl HS.out) rfl ⟨rfl, ?_⟩
  exact Below.setRow ((Below.refl _ w).alloc (Nat.le_refl _) _) (Nat.le_refl _) _
set_option maxRecDepth 100000 in
set_option maxHeartbeats 1000000 in
theorem rfirst_any (w : World) : Calls Tryd.prog 20 #[] w fun e w' => e = .returned (.agg (nums .u64 square)) ∧ Below w.heap.size w w' := by
  have hz : ∀ w, (zeroValue 45).run Tryd.prog w = .ok (.agg (nums .u64 (zer 8))) w := fun w => (zero_of_info (P := Tryd.prog) (t := 45) (v := .agg (nums .u64 (zer 8))) (n := 8) (by kernel_rfl)).1 w
  have HS := Lib.hid (show (Tryd.prog.info? 45).map (·.size) = some (nums .u64 square).size by kernel_rfl)
  go_enter Tryd.func20, Tryd.ntmps20
  go_wp2_with (first
    | (refine wpList_build' rfl 45 _ rfl (nums .u64 square) (by kernel_rfl) ?_)
    | (refine wpList_store_row rfl 45 _ _ rfl w.heap.size (nums .u64 square) rfl rfl 45 _ (Go.heap_alloc_new _ _) HS.out ?hold (nums_one _ _) ?_))
  case hold => rw [size_nums, size_nums, zer_len]; rfl
  refine bodyPost_ret (results_cell_row (by rfl) _ _ w.heap.size 45 (nums .u64 square) (0, 0) _ (by rfl) (setRow_heap _ _ _ _ _ _ (Go.heap_alloc_new _ _)) Tryd.underlying45 rfl HS.out) rfl ⟨rfl, ?_⟩
  exact Below.setRow ((Below.refl _ w).alloc (Nat.le_refl _) _) (Nat.le_refl _) _
end Go.Proofs.YtfjkinmmidmjaaaDoor
