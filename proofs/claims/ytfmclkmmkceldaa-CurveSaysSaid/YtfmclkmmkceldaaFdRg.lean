/-
  The document's words: inv.
  Conditions: none.
-/
import Derived.Test.YtfmclkmmkceldaaFdRf
namespace Go.Proofs.Ytfmclkmmkceldaa
open Go.RowKit

set_option maxRecDepth 100000 in
set_option maxHeartbeats 1000000 in
theorem invR_any (a e : Nat) (w : World) (ha : a < 57896044618658097711785492504343953926634992332820282019728792003956564819949) (he : e = 57896044618658097711785492504343953926634992332820282019728792003956564819947) :
    Calls Try.prog 100 #[.agg (nums .u64 (w4 a))] w fun r w' => r = .returned (.agg (nums .u64 (w4 (a ^ e % 57896044618658097711785492504343953926634992332820282019728792003956564819949)))) ∧ Below w.heap.size w w' := by
  have hel : e < 115792089237316195423570985008687907853269984665640564039457584007913129639936 := by rw [he]; decide
  have HPR := Lib.hid (fun w => primeR_any w)
  have HMI := Lib.hid (fun w => takeR_any 57896044618658097711785492504343953926634992332820282019728792003956564819949 2 e 0 w (by decide) (by decide) hel (by rw [he]) (by decide))
  have HPW := Lib.hid (fun w => powerR_any a e w ha hel)
  have HSA := Lib.hid (sR a)
  have HSE := Lib.hid (sR e)
  obtain ⟨x, hx⟩ : ∃ x, a ^ e % 57896044618658097711785492504343953926634992332820282019728792003956564819949 = x := ⟨_, rfl⟩
  rw [hx] at HPW
  rw [hx]
  have HSX := Lib.hid (sR x)
  have HO := Lib.hid (show (nums .u64 (zer 4)).size = (nums .u64 (w4 x)).size by rw [size_nums, size_nums, zer_len, w4_len])
  have hz := zR
  obtain ⟨pp, hpp⟩ : ∃ p, 57896044618658097711785492504343953926634992332820282019728792003956564819949 = p := ⟨_, rfl⟩
  rw [hpp] at HPR HMI
  clear ha he hel hx hpp
  go_enter Try.func100, Try.ntmps100
  go_upto_region 1 with fail
  generalize hW1 : World.alloc _ _ = W1
  obtain ⟨N, hN⟩ : ∃ n, w.heap.size = n := ⟨_, rfl⟩
  have HR1 := Lib.hid (show RW W1 N .u64 86 (w4 a) by subst hW1; rw [← hN]; exact (alloc2_at w _ _).1)
  have HR2 := Lib.hid (show RW W1 (N + 1) .u64 86 (zer 4) by subst hW1; rw [← hN]; exact (alloc2_at w _ _).2)
  have HB1 := Lib.hid (show Below N w W1 by subst hW1; rw [← hN]; exact ((Below.refl _ w).alloc (Nat.le_refl _) _).alloc (by simp) _)
  have HN := Lib.hid hN
  rw [hN]
  clear hW1 hN
  go_wp2_with fail
  refine (HPR.out _).mono ?_
  rintro e1 w2 ⟨rfl, hb2⟩
  have HC1 := Lib.hid (HR1.out.ext hb2)
  have HC2 := Lib.hid (HR2.out.ext hb2)
  have HCB := Lib.hid (HB1.out.trans (hb2.mono (show N ≤ _ by have := HR2.out.lt; omega)))
  clear hb2 HR1 HR2 HB1
  go_wp2_with (refine wpList_build' rfl 86 _ rfl (nums .u64 (w4 2)) (by kernel_rfl) ?_)
  refine (HMI.out _).mono ?_
  rintro e2 w3 ⟨rfl, hb3⟩
  have HD1 := Lib.hid (HC1.out.ext hb3)
  have HD2 := Lib.hid (HC2.out.ext hb3)
  have HDB := Lib.hid (HCB.out.trans (hb3.mono (show N ≤ _ by have := HC2.out.lt; omega)))
  clear hb3 HC1 HC2 HCB
  go_wp2_with (refine wpList_store_row rfl 86 _ _ rfl w3.heap.size (nums .u64 (w4 e)) rfl rfl 86 _ (Go.heap_alloc_new _ _) HSE.out ?hold (nums_one _ _) (Stop.out ?_))
  case hold => rw [size_nums, size_nums, zer_len, w4_len]
  generalize hWS : World.setRow _ _ _ = ws
  obtain ⟨M, hM⟩ : ∃ n, w3.heap.size = n := ⟨_, rfl⟩
  have hMN : N + 1 < M := by rw [← hM]; exact HD2.out.lt
  have HE := Lib.hid (show RW ws M .u64 86 (w4 e) by subst hWS; rw [← hM]; exact setRow_heap _ _ _ _ _ _ (Go.heap_alloc_new _ _))
  have HE1 := Lib.hid (show RW ws N .u64 86 (w4 a) by subst hWS; exact HD1.out.other ((setRow_other _ _ _ _ (by omega)).trans (Go.heap_alloc_old _ _ HD1.out.lt)))
  have HE2 := Lib.hid (show RW ws (N + 1) .u64 86 (zer 4) by subst hWS; exact HD2.out.other ((setRow_other _ _ _ _ (by omega)).trans (Go.heap_alloc_old _ _ HD2.out.lt)))
  have HEB := Lib.hid (show Below N w ws by subst hWS; exact Below.setRow (HDB.out.alloc (by omega) _) (by omega) _)
  rw [hM]
  clear hWS hM HD1 HD2 HDB
  refine ⟨?_⟩
  go_wp2_with (first
    | (refine wpList_load_row rfl 86 _ rfl N rfl 86 (nums .u64 (w4 a)) (0, 0) _ HE1.out Try.underlying86 rfl HSA.out ?_)
    | (refine wpList_load_row rfl 86 _ rfl M rfl 86 (nums .u64 (w4 e)) (0, 0) _ HE.out Try.underlying86 rfl HSE.out ?_)
    )
  refine (HPW.out _).mono ?_
  rintro e3 w5 ⟨rfl, hb5⟩
  have HF2 := Lib.hid (HE2.out.ext hb5)
  have HFB := Lib.hid (HEB.out.trans (hb5.mono (show N ≤ _ by have := HE2.out.lt; omega)))
  clear hb5 HE HE1 HE2 HEB
  go_wp2_with (refine wpList_store_row rfl 86 _ _ rfl (N + 1) (nums .u64 (w4 x)) rfl rfl 86 _ HF2.out HSX.out HO.out (nums_one _ _) ?_)
  refine bodyPost_ret (results_cell_row (by rfl) _ _ (N + 1) 86 (nums .u64 (w4 x)) (0, 0) _ (by rfl) (setRow_heap _ _ _ _ _ _ HF2.out) Try.underlying86 rfl HSX.out) rfl ⟨rfl, ?_⟩
  rw [HN.out]
  exact Below.setRow HFB.out (by omega) _
end Go.Proofs.Ytfmclkmmkceldaa
