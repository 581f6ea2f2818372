/-
  XY and the document's open: what bytes say of a point.
  Conditions: none.
-/
import Derived.Test.YtlpchgoaoglhcaaDoorCvZ
namespace Go.Proofs.YtlpchgoaoglhcaaDoor
open Go.RowKit
set_option linter.unusedSimpArgs false
set_option linter.unusedVariables false
/-- What x squared is for a point with this y. -/
def sqx (y : Fp) : Fp := (y * y - 1) * finv (cD * (y * y) + 1)
/-- A point's number. -/
def pN (p : Pt) : Nat := encXY p.x p.y
theorem pN_lt (p : Pt) : pN p < 115792089237316195423570985008687907853269984665640564039457584007913129639936 := encXY_lt _ _
theorem pN_low (p : Pt) : pN p % 57896044618658097711785492504343953926634992332820282019728792003956564819968 = p.y.val := by
  have : p.y.val < 57896044618658097711785492504343953926634992332820282019728792003956564819949 := p.y.isLt
  unfold pN encXY; omega
theorem pN_top (p : Pt) : decide (57896044618658097711785492504343953926634992332820282019728792003956564819968 ≤ pN p) = decide (p.x.val % 2 = 1) := by
  have : p.y.val < 57896044618658097711785492504343953926634992332820282019728792003956564819949 := p.y.isLt
  rw [Bool.eq_iff_iff, decide_eq_true_eq, decide_eq_true_eq]
  unfold pN encXY; omega
theorem sqx_of (p : Pt) : sqx p.y = p.x * p.x := by
  have h := on_sq p.on
  have h2 := finv_mul (div_ne p.y)
  unfold sqx
  rw [← h]
  grind
theorem on_sqx {x y : Fp} (h : x * x = sqx y) : On x y := by
  have h2 := finv_mul (div_ne y)
  unfold sqx at h
  unfold On
  have h3 : (cD * (y * y) + 1) * (x * x) = y * y - 1 := by rw [h]; grind
  grind
theorem neg_par {a : Fp} (h : a ≠ 0) : (-a).val % 2 = 1 - a.val % 2 := by
  have h1 : a.val < 57896044618658097711785492504343953926634992332820282019728792003956564819949 := a.isLt
  have h0 : a.val ≠ 0 := fun e => h (Fin.ext e)
  have e : (-a).val = 57896044618658097711785492504343953926634992332820282019728792003956564819949 - a.val := by
    rw [neg_v]
    exact Nat.mod_eq_of_lt (show PP - a.val < PP by show 57896044618658097711785492504343953926634992332820282019728792003956564819949 - a.val < 57896044618658097711785492504343953926634992332820282019728792003956564819949; omega)
  rw [e]; omega
theorem sq_or {a b : Fp} (h : a * a = b * b) : a = b ∨ a = -b := by
  have h3 : (a - b) * (a + b) = 0 := by grind
  rcases Fp.nzd _ _ h3 with h4 | h4
  · exact .inl (Fp.eq_of_sub h4)
  · exact .inr (by grind)
theorem fis_of (p : Pt) : fis (sqx p.y) = true := by rw [sqx_of]; exact fis_sq _
theorem frt_of (p : Pt) : frt (sqx p.y) = if p.x.val % 2 = 1 then -p.x else p.x := by
  have h1 := frt_sq (fis_of p)
  have h2 := frt_even (sqx p.y)
  rw [sqx_of p] at h1 h2 ⊢
  rcases sq_or h1 with h3 | h3
  · rw [h3] at h2 ⊢
    rw [if_neg (by omega)]
  · by_cases h0 : p.x = 0
    · rw [h3, h0]; decide +kernel
    · have := neg_par h0
      rw [h3] at h2 ⊢
      rw [if_pos (by omega)]
theorem neg_neg' (a : Fp) : - -a = a := by grind
theorem neg_eq0 {a : Fp} (h : -a = 0) : a = 0 := by grind
theorem odd_ne {a : Fp} (h : a.val % 2 = 1) : a ≠ 0 := fun e => by rw [e] at h; exact absurd h (by decide +kernel)
theorem pt_of {y : Fp} (h : fis (sqx y) = true) : ∃ p : Pt, p.x = frt (sqx y) ∧ p.y = y := ⟨⟨frt (sqx y), y, on_sqx (frt_sq h)⟩, rfl, rfl⟩
theorem pt_neg {y : Fp} (h : fis (sqx y) = true) : ∃ p : Pt, p.x = -frt (sqx y) ∧ p.y = y := ⟨⟨-frt (sqx y), y, on_sqx (by have := frt_sq h; grind)⟩, rfl, rfl⟩
set_option maxRecDepth 100000 in
set_option maxHeartbeats 1000000 in
theorem XY_a (n m : Nat) (o : Bool) (hn : n < 115792089237316195423570985008687907853269984665640564039457584007913129639936) (hm : n % 57896044618658097711785492504343953926634992332820282019728792003956564819968 = m) (ho : decide (57896044618658097711785492504343953926634992332820282019728792003956564819968 ≤ n) = o) (hg : ¬ m < PP) (w : World) :
    Calls Tryd.prog 56 #[.agg (PB n)] w fun e w' => e = .returned (.tuple #[.agg (NB 0), .agg (NB 0), .bool false]) ∧ Below w.heap.size w w' := by
  have HNL := Lib.hid hn
  have HM := Lib.hid hm
  have HOD := Lib.hid ho
  have HGO := Lib.hid (show decide (le (b32 m) < PP) = false by rw [le_b32 m (by omega)]; exact decide_eq_false hg)
  clear hn hm ho hg
  have HQ1 := Lib.hid (fun w => split_any n m o HNL.out HM.out HOD.out w)
  have HQ2 := Lib.hid (fun w => Good_RB (b32_len m) w)
  rw [show decide (le (b32 m) < PP) = false from HGO.out] at HQ2
  have hz0 := zNu
  go_enter Tryd.func56, Tryd.ntmps56
  go_upto_region 1 with fail
  generalize hW1 : World.alloc _ _ = W1
  obtain ⟨N, hN⟩ : ∃ n, w.heap.size = n := ⟨_, rfl⟩
  have HX0 := Lib.hid (show CT W1 N 68 (PB n) by subst hW1; rw [← hN]; exact (allocs3_at w _ _ _).1)
  have HX1 := Lib.hid (show CT W1 (N + 1) 102 (NB 0) by subst hW1; rw [← hN]; exact (allocs3_at w _ _ _).2.1)
  have HX2 := Lib.hid (show CT W1 (N + 1 + 1) 102 (NB 0) by subst hW1; rw [← hN]; exact (allocs3_at w _ _ _).2.2)
  have HB := Lib.hid (show Below N w W1 by subst hW1; rw [← hN]; exact allocs3_below w _ _ _)
  have HN := Lib.hid hN
  rw [hN]
  clear hW1 hN
  refine wp_region_seq 5 ?_
  simp only [List.take_succ_cons, List.take_zero, List.drop_succ_cons, List.drop_zero]
  refine upW_val (by rfl) (by rfl) (by rfl) (fun K hK => quiet_load_ct _ _ rfl N rfl 68 (PB n) 32 (PB_rw n) _ HX0.out Tryd.underlying68 rfl (by kernel_rfl) (hK _ ?_))
  simp only [Act.put, List.setIfInBounds_toArray, List.set]
  refine upW_call (by rfl) (by rfl) (.tuple #[.agg (PB m), .bool o]) _ rfl (by simp) (fun p => ?_) ?_
  · go_big_quiet_op
    exact ⟨_, fun q => Calls.ext_of (HQ1.out q.x), rfl⟩
  simp only [Act.put, List.setIfInBounds_toArray, List.set]
  refine upW_val (by rfl) (by rfl) (by rfl) ?_
  intro K hK
  go_big_quiet_op
  refine hK _ ?_
  refine upW_late (by rfl) (.agg (PB m)) (fun _ => rfl) ?_
  simp only [Act.put, List.setIfInBounds_toArray, List.set]
  refine upW_late (by rfl) (.bool o) (fun _ => rfl) ?_
  simp only [Act.put, List.setIfInBounds_toArray, List.set]
  refine upW_nil (fun wr1 hbr1 => ?_)
  replace HX0 := Lib.hid (HX0.out.ext hbr1)
  replace HX1 := Lib.hid (HX1.out.ext hbr1)
  replace HX2 := Lib.hid (HX2.out.ext hbr1)
  replace HB := Lib.hid (HB.out.trans (hbr1.mono (show N ≤ _ by have := HB.out.size; have := HN.out; omega)))
  clear hbr1
  refine wpList_new1 rfl 102 rfl (NB 0) zNu rfl _ _ rfl rfl (PB m) 32 (PB_rw m) (NB_rw 0).size (by kernel_rfl) rfl rfl (fun B2 wr2 hB2 hbr2 hCB2 => ?_)
  have HB2 := Lib.hid hCB2
  have hlB2X0 : N < B2 := by rw [← hB2]; exact HX0.out.lt
  have hlB2X1 : (N + 1) < B2 := by rw [← hB2]; exact HX1.out.lt
  have hlB2X2 : (N + 1 + 1) < B2 := by rw [← hB2]; exact HX2.out.lt
  have hNB2 : N ≤ B2 := by rw [← hB2]; have := HB.out.size; have := HN.out; omega
  clear hB2 hCB2
  simp only [Act.put, List.setIfInBounds_toArray, List.set]
  replace HX0 := Lib.hid (HX0.out.ext hbr2)
  replace HX1 := Lib.hid (HX1.out.ext hbr2)
  replace HX2 := Lib.hid (HX2.out.ext hbr2)
  replace HB := Lib.hid (HB.out.trans (hbr2.mono (show N ≤ _ by have := HB.out.size; have := HN.out; omega)))
  clear hbr2
  go_upto_region 2 with fail
  refine wp_region_seq 2 ?_
  simp only [List.take_succ_cons, List.take_zero, List.drop_succ_cons, List.drop_zero]
  refine upW_val (by rfl) (by rfl) (by rfl) (fun K hK => quiet_load_ct _ _ rfl B2 rfl 102 (PB m) 32 (PB_rw m) _ HB2.out Tryd.underlying102 rfl (by kernel_rfl) (hK _ ?_))
  simp only [Act.put, List.setIfInBounds_toArray, List.set]
  refine upW_call (by rfl) (by rfl) (.bool false) _ rfl (by simp) (fun p => ?_) ?_
  · go_big_quiet_op
    exact ⟨_, fun q => Calls.ext_of (HQ2.out q.x), rfl⟩
  simp only [Act.put, List.setIfInBounds_toArray, List.set]
  refine upW_nil (fun wr3 hbr3 => ?_)
  replace HX0 := Lib.hid (HX0.out.ext hbr3)
  replace HX1 := Lib.hid (HX1.out.ext hbr3)
  replace HX2 := Lib.hid (HX2.out.ext hbr3)
  replace HB2 := Lib.hid (HB2.out.ext hbr3)
  replace HB := Lib.hid (HB.out.trans (hbr3.mono (show N ≤ _ by have := HB.out.size; have := HN.out; omega)))
  clear hbr3
  go_upto_region 3 with fail
  refine wp_region_seq 2 ?_
  simp only [List.take_succ_cons, List.take_zero, List.drop_succ_cons, List.drop_zero]
  refine upW_late (by rfl) (.agg (NB 0)) (fun w => run_built _ _ _ _ rfl _ (by kernel_rfl) w) ?_
  simp only [Act.put, List.setIfInBounds_toArray, List.set]
  refine upW_late (by rfl) (.agg (NB 0)) (fun w => run_built _ _ _ _ rfl _ (by kernel_rfl) w) ?_
  simp only [Act.put, List.setIfInBounds_toArray, List.set]
  refine upW_nil (fun wr4 hbr4 => ?_)
  replace HX0 := Lib.hid (HX0.out.ext hbr4)
  replace HX1 := Lib.hid (HX1.out.ext hbr4)
  replace HX2 := Lib.hid (HX2.out.ext hbr4)
  replace HB2 := Lib.hid (HB2.out.ext hbr4)
  replace HB := Lib.hid (HB.out.trans (hbr4.mono (show N ≤ _ by have := HB.out.size; have := HN.out; omega)))
  clear hbr4
  refine wpList_store_ct rfl 102 _ _ rfl (N + 1) (NB 0) rfl rfl 102 (NB 0) 32 HX1.out (by kernel_rfl) (NB_rw 0) (NB_rw 0) rfl (fun wr5 hSwr5 hOwr5 hWwr5 => ?_)
  replace HX1 := Lib.hid hSwr5
  replace HB := Lib.hid (hWwr5 _ _ HB.out (by omega))
  replace HX0 := Lib.hid (HX0.out.other (hOwr5 _ (by omega)))
  replace HX2 := Lib.hid (HX2.out.other (hOwr5 _ (by omega)))
  replace HB2 := Lib.hid (HB2.out.other (hOwr5 _ (by omega)))
  clear hSwr5 hOwr5 hWwr5
  refine wpList_store_ct rfl 102 _ _ rfl (N + 1 + 1) (NB 0) rfl rfl 102 (NB 0) 32 HX2.out (by kernel_rfl) (NB_rw 0) (NB_rw 0) rfl (fun wr6 hSwr6 hOwr6 hWwr6 => ?_)
  replace HX2 := Lib.hid hSwr6
  replace HB := Lib.hid (hWwr6 _ _ HB.out (by omega))
  replace HX0 := Lib.hid (HX0.out.other (hOwr6 _ (by omega)))
  replace HX1 := Lib.hid (HX1.out.other (hOwr6 _ (by omega)))
  replace HB2 := Lib.hid (HB2.out.other (hOwr6 _ (by omega)))
  clear hSwr6 hOwr6 hWwr6
  go_wp2
  refine bodyPost_ret (results_ct2_slot (p := 2) (p' := 3) (q := 4) (by rfl) _ _ (N + 1) (N + 1 + 1) 102 102 (NB 0) (NB 0) 32 32 _ _ (.bool false) (by rfl) HX1.out (NB_rw 0) (by rfl) HX2.out (NB_rw 0) Tryd.underlying102 rfl (by kernel_rfl) Tryd.underlying102 rfl (by kernel_rfl) rfl) rfl ⟨by first | rfl | (rfl), by rw [HN.out]; exact HB.out⟩
set_option maxRecDepth 100000 in
set_option maxHeartbeats 1000000 in
theorem XY_b (n m : Nat) (o : Bool) (hn : n < 115792089237316195423570985008687907853269984665640564039457584007913129639936) (hm : n % 57896044618658097711785492504343953926634992332820282019728792003956564819968 = m) (ho : decide (57896044618658097711785492504343953926634992332820282019728792003956564819968 ≤ n) = o) (y : Fp) (hy : y.val = m) (hf : fis (sqx y) = false) (w : World) :
    Calls Tryd.prog 56 #[.agg (PB n)] w fun e w' => e = .returned (.tuple #[.agg (NB 0), .agg (NB 0), .bool false]) ∧ Below w.heap.size w w' := by
  have HNL := Lib.hid hn
  have HM := Lib.hid hm
  have HOD := Lib.hid ho
  subst hy
  have HGO := Lib.hid (show decide (le (b32 y.val) < PP) = true by rw [le_nb]; exact decide_eq_true y.isLt)
  have HFI := Lib.hid hf
  obtain ⟨r, hr⟩ : ∃ r : Fp, frt (sqx y) = r := ⟨_, rfl⟩
  have HRT := Lib.hid hr
  clear hn hm ho hf hr
  have HQ1 := Lib.hid (fun w => split_any n y.val o HNL.out HM.out HOD.out w)
  have HQ2 := Lib.hid (fun w => Good_RB (b32_len (y.val)) w)
  rw [show decide (le (b32 (y.val)) < PP) = true from HGO.out] at HQ2
  have HQ3 := Lib.hid (fun w => IsN.sqx (isN_NB y) w)
  have HQ4 := Lib.hid (fun w => IsN.root (isN_NB (sqx y)) w)
  rw [show fis (sqx y) = false from HFI.out, show frt (sqx y) = r from HRT.out] at HQ4
  have hz0 := zNu
  go_enter Tryd.func56, Tryd.ntmps56
  go_upto_region 1 with fail
  generalize hW1 : World.alloc _ _ = W1
  obtain ⟨N, hN⟩ : ∃ n, w.heap.size = n := ⟨_, rfl⟩
  have HX0 := Lib.hid (show CT W1 N 68 (PB n) by subst hW1; rw [← hN]; exact (allocs3_at w _ _ _).1)
  have HX1 := Lib.hid (show CT W1 (N + 1) 102 (NB 0) by subst hW1; rw [← hN]; exact (allocs3_at w _ _ _).2.1)
  have HX2 := Lib.hid (show CT W1 (N + 1 + 1) 102 (NB 0) by subst hW1; rw [← hN]; exact (allocs3_at w _ _ _).2.2)
  have HB := Lib.hid (show Below N w W1 by subst hW1; rw [← hN]; exact allocs3_below w _ _ _)
  have HN := Lib.hid hN
  rw [hN]
  clear hW1 hN
  refine wp_region_seq 5 ?_
  simp only [List.take_succ_cons, List.take_zero, List.drop_succ_cons, List.drop_zero]
  refine upW_val (by rfl) (by rfl) (by rfl) (fun K hK => quiet_load_ct _ _ rfl N rfl 68 (PB n) 32 (PB_rw n) _ HX0.out Tryd.underlying68 rfl (by kernel_rfl) (hK _ ?_))
  simp only [Act.put, List.setIfInBounds_toArray, List.set]
  refine upW_call (by rfl) (by rfl) (.tuple #[.agg (NB y), .bool o]) _ rfl (by simp) (fun p => ?_) ?_
  · go_big_quiet_op
    exact ⟨_, fun q => Calls.ext_of (HQ1.out q.x), rfl⟩
  simp only [Act.put, List.setIfInBounds_toArray, List.set]
  refine upW_val (by rfl) (by rfl) (by rfl) ?_
  intro K hK
  go_big_quiet_op
  refine hK _ ?_
  refine upW_late (by rfl) (.agg (NB y)) (fun _ => rfl) ?_
  simp only [Act.put, List.setIfInBounds_toArray, List.set]
  refine upW_late (by rfl) (.bool o) (fun _ => rfl) ?_
  simp only [Act.put, List.setIfInBounds_toArray, List.set]
  refine upW_nil (fun wr1 hbr1 => ?_)
  replace HX0 := Lib.hid (HX0.out.ext hbr1)
  replace HX1 := Lib.hid (HX1.out.ext hbr1)
  replace HX2 := Lib.hid (HX2.out.ext hbr1)
  replace HB := Lib.hid (HB.out.trans (hbr1.mono (show N ≤ _ by have := HB.out.size; have := HN.out; omega)))
  clear hbr1
  refine wpList_new1 rfl 102 rfl (NB 0) zNu rfl _ _ rfl rfl (NB y) 32 (NB_rw y) (NB_rw 0).size (by kernel_rfl) rfl rfl (fun B2 wr2 hB2 hbr2 hCB2 => ?_)
  have HB2 := Lib.hid hCB2
  have hlB2X0 : N < B2 := by rw [← hB2]; exact HX0.out.lt
  have hlB2X1 : (N + 1) < B2 := by rw [← hB2]; exact HX1.out.lt
  have hlB2X2 : (N + 1 + 1) < B2 := by rw [← hB2]; exact HX2.out.lt
  have hNB2 : N ≤ B2 := by rw [← hB2]; have := HB.out.size; have := HN.out; omega
  clear hB2 hCB2
  simp only [Act.put, List.setIfInBounds_toArray, List.set]
  replace HX0 := Lib.hid (HX0.out.ext hbr2)
  replace HX1 := Lib.hid (HX1.out.ext hbr2)
  replace HX2 := Lib.hid (HX2.out.ext hbr2)
  replace HB := Lib.hid (HB.out.trans (hbr2.mono (show N ≤ _ by have := HB.out.size; have := HN.out; omega)))
  clear hbr2
  go_upto_region 2 with fail
  refine wp_region_seq 2 ?_
  simp only [List.take_succ_cons, List.take_zero, List.drop_succ_cons, List.drop_zero]
  refine upW_val (by rfl) (by rfl) (by rfl) (fun K hK => quiet_load_ct _ _ rfl B2 rfl 102 (NB y) 32 (NB_rw y) _ HB2.out Tryd.underlying102 rfl (by kernel_rfl) (hK _ ?_))
  simp only [Act.put, List.setIfInBounds_toArray, List.set]
  refine upW_call (by rfl) (by rfl) (.bool true) _ rfl (by simp) (fun p => ?_) ?_
  · go_big_quiet_op
    exact ⟨_, fun q => Calls.ext_of (HQ2.out q.x), rfl⟩
  simp only [Act.put, List.setIfInBounds_toArray, List.set]
  refine upW_nil (fun wr3 hbr3 => ?_)
  replace HX0 := Lib.hid (HX0.out.ext hbr3)
  replace HX1 := Lib.hid (HX1.out.ext hbr3)
  replace HX2 := Lib.hid (HX2.out.ext hbr3)
  replace HB2 := Lib.hid (HB2.out.ext hbr3)
  replace HB := Lib.hid (HB.out.trans (hbr3.mono (show N ≤ _ by have := HB.out.size; have := HN.out; omega)))
  clear hbr3
  go_upto_region 4 with fail
  refine wp_region_seq 6 ?_
  simp only [List.take_succ_cons, List.take_zero, List.drop_succ_cons, List.drop_zero]
  refine upW_val (by rfl) (by rfl) (by rfl) (fun K hK => quiet_load_ct _ _ rfl B2 rfl 102 (NB y) 32 (NB_rw y) _ HB2.out Tryd.underlying102 rfl (by kernel_rfl) (hK _ ?_))
  simp only [Act.put, List.setIfInBounds_toArray, List.set]
  refine upW_call (by rfl) (by rfl) (.agg (NB (sqx y))) _ rfl (by simp) (fun p => ?_) ?_
  · go_big_quiet_op
    exact ⟨_, fun q => Calls.ext_of (HQ3.out q.x), rfl⟩
  simp only [Act.put, List.setIfInBounds_toArray, List.set]
  refine upW_call (by rfl) (by rfl) (.tuple #[.agg (NB r), .bool false]) _ rfl (by simp) (fun p => ?_) ?_
  · go_big_quiet_op
    exact ⟨_, fun q => Calls.ext_of (HQ4.out q.x), rfl⟩
  simp only [Act.put, List.setIfInBounds_toArray, List.set]
  refine upW_val (by rfl) (by rfl) (by rfl) ?_
  intro K hK
  go_big_quiet_op
  refine hK _ ?_
  refine upW_late (by rfl) (.agg (NB r)) (fun _ => rfl) ?_
  simp only [Act.put, List.setIfInBounds_toArray, List.set]
  refine upW_late (by rfl) (.bool false) (fun _ => rfl) ?_
  simp only [Act.put, List.setIfInBounds_toArray, List.set]
  refine upW_nil (fun wr4 hbr4 => ?_)
  replace HX0 := Lib.hid (HX0.out.ext hbr4)
  replace HX1 := Lib.hid (HX1.out.ext hbr4)
  replace HX2 := Lib.hid (HX2.out.ext hbr4)
  replace HB2 := Lib.hid (HB2.out.ext hbr4)
  replace HB := Lib.hid (HB.out.trans (hbr4.mono (show N ≤ _ by have := HB.out.size; have := HN.out; omega)))
  clear hbr4
  refine wpList_new1 rfl 102 rfl (NB 0) zNu rfl _ _ rfl rfl (NB r) 32 (NB_rw r) (NB_rw 0).size (by kernel_rfl) rfl rfl (fun B5 wr5 hB5 hbr5 hCB5 => ?_)
  have HB5 := Lib.hid hCB5
  have hlB5X0 : N < B5 := by rw [← hB5]; exact HX0.out.lt
  have hlB5X1 : (N + 1) < B5 := by rw [← hB5]; exact HX1.out.lt
  have hlB5X2 : (N + 1 + 1) < B5 := by rw [← hB5]; exact HX2.out.lt
  have hlB5B2 : B2 < B5 := by rw [← hB5]; exact HB2.out.lt
  have hNB5 : N ≤ B5 := by rw [← hB5]; have := HB.out.size; have := HN.out; omega
  clear hB5 hCB5
  simp only [Act.put, List.setIfInBounds_toArray, List.set]
  replace HX0 := Lib.hid (HX0.out.ext hbr5)
  replace HX1 := Lib.hid (HX1.out.ext hbr5)
  replace HX2 := Lib.hid (HX2.out.ext hbr5)
  replace HB2 := Lib.hid (HB2.out.ext hbr5)
  replace HB := Lib.hid (HB.out.trans (hbr5.mono (show N ≤ _ by have := HB.out.size; have := HN.out; omega)))
  clear hbr5
  go_upto_region 5 with fail
  refine wp_region_seq 9 ?_
  simp only [List.take_succ_cons, List.take_zero, List.drop_succ_cons, List.drop_zero]
  refine upW_val (by rfl) (by rfl) (by rfl) ?_
  intro K hK
  go_big_quiet_op
  refine hK _ ?_
  refine upW_val (by rfl) (by rfl) (by rfl) ?_
  intro K hK
  go_big_quiet_op
  refine hK _ ?_
  refine upW_val (by rfl) (by rfl) (by rfl) ?_
  intro K hK
  go_big_quiet_op
  refine hK _ ?_
  refine upW_skip (by rfl) ?_
  simp only [Act.put, List.setIfInBounds_toArray, List.set]
  refine upW_skip (by rfl) ?_
  simp only [Act.put, List.setIfInBounds_toArray, List.set]
  refine upW_skip (by rfl) ?_
  simp only [Act.put, List.setIfInBounds_toArray, List.set]
  refine upW_skip (by rfl) ?_
  simp only [Act.put, List.setIfInBounds_toArray, List.set]
  refine upW_skip (by rfl) ?_
  simp only [Act.put, List.setIfInBounds_toArray, List.set]
  refine upW_skip (by rfl) ?_
  simp only [Act.put, List.setIfInBounds_toArray, List.set]
  refine upW_nil (fun wr6 hbr6 => ?_)
  replace HX0 := Lib.hid (HX0.out.ext hbr6)
  replace HX1 := Lib.hid (HX1.out.ext hbr6)
  replace HX2 := Lib.hid (HX2.out.ext hbr6)
  replace HB2 := Lib.hid (HB2.out.ext hbr6)
  replace HB5 := Lib.hid (HB5.out.ext hbr6)
  replace HB := Lib.hid (HB.out.trans (hbr6.mono (show N ≤ _ by have := HB.out.size; have := HN.out; omega)))
  clear hbr6
  go_upto_region 6 with fail
  refine wp_region_seq 2 ?_
  simp only [List.take_succ_cons, List.take_zero, List.drop_succ_cons, List.drop_zero]
  refine upW_late (by rfl) (.agg (NB 0)) (fun w => run_built _ _ _ _ rfl _ (by kernel_rfl) w) ?_
  simp only [Act.put, List.setIfInBounds_toArray, List.set]
  refine upW_late (by rfl) (.agg (NB 0)) (fun w => run_built _ _ _ _ rfl _ (by kernel_rfl) w) ?_
  simp only [Act.put, List.setIfInBounds_toArray, List.set]
  refine upW_nil (fun wr7 hbr7 => ?_)
  replace HX0 := Lib.hid (HX0.out.ext hbr7)
  replace HX1 := Lib.hid (HX1.out.ext hbr7)
  replace HX2 := Lib.hid (HX2.out.ext hbr7)
  replace HB2 := Lib.hid (HB2.out.ext hbr7)
  replace HB5 := Lib.hid (HB5.out.ext hbr7)
  replace HB := Lib.hid (HB.out.trans (hbr7.mono (show N ≤ _ by have := HB.out.size; have := HN.out; omega)))
  clear hbr7
  refine wpList_store_ct rfl 102 _ _ rfl (N + 1) (NB 0) rfl rfl 102 (NB 0) 32 HX1.out (by kernel_rfl) (NB_rw 0) (NB_rw 0) rfl (fun wr8 hSwr8 hOwr8 hWwr8 => ?_)
  replace HX1 := Lib.hid hSwr8
  replace HB := Lib.hid (hWwr8 _ _ HB.out (by omega))
  replace HX0 := Lib.hid (HX0.out.other (hOwr8 _ (by omega)))
  replace HX2 := Lib.hid (HX2.out.other (hOwr8 _ (by omega)))
  replace HB2 := Lib.hid (HB2.out.other (hOwr8 _ (by omega)))
  replace HB5 := Lib.hid (HB5.out.other (hOwr8 _ (by omega)))
  clear hSwr8 hOwr8 hWwr8
  refine wpList_store_ct rfl 102 _ _ rfl (N + 1 + 1) (NB 0) rfl rfl 102 (NB 0) 32 HX2.out (by kernel_rfl) (NB_rw 0) (NB_rw 0) rfl (fun wr9 hSwr9 hOwr9 hWwr9 => ?_)
  replace HX2 := Lib.hid hSwr9
  replace HB := Lib.hid (hWwr9 _ _ HB.out (by omega))
  replace HX0 := Lib.hid (HX0.out.other (hOwr9 _ (by omega)))
  replace HX1 := Lib.hid (HX1.out.other (hOwr9 _ (by omega)))
  replace HB2 := Lib.hid (HB2.out.other (hOwr9 _ (by omega)))
  replace HB5 := Lib.hid (HB5.out.other (hOwr9 _ (by omega)))
  clear hSwr9 hOwr9 hWwr9
  go_wp2
  refine bodyPost_ret (results_ct2_slot (p := 2) (p' := 3) (q := 4) (by rfl) _ _ (N + 1) (N + 1 + 1) 102 102 (NB 0) (NB 0) 32 32 _ _ (.bool false) (by rfl) HX1.out (NB_rw 0) (by rfl) HX2.out (NB_rw 0) Tryd.underlying102 rfl (by kernel_rfl) Tryd.underlying102 rfl (by kernel_rfl) rfl) rfl ⟨by first | rfl | (rfl), by rw [HN.out]; exact HB.out⟩
set_option maxRecDepth 100000 in
set_option maxHeartbeats 1000000 in
theorem XY_c (n m : Nat) (o : Bool) (hn : n < 115792089237316195423570985008687907853269984665640564039457584007913129639936) (hm : n % 57896044618658097711785492504343953926634992332820282019728792003956564819968 = m) (ho : decide (57896044618658097711785492504343953926634992332820282019728792003956564819968 ≤ n) = o) (y : Fp) (hy : y.val = m) (hf : fis (sqx y) = true) (hod : o = true) (hz : decide (frt (sqx y) = 0) = true) (w : World) :
    Calls Tryd.prog 56 #[.agg (PB n)] w fun e w' => e = .returned (.tuple #[.agg (NB 0), .agg (NB 0), .bool false]) ∧ Below w.heap.size w w' := by
  have HNL := Lib.hid hn
  have HM := Lib.hid hm
  have HOD := Lib.hid ho
  subst hy
  have HGO := Lib.hid (show decide (le (b32 y.val) < PP) = true by rw [le_nb]; exact decide_eq_true y.isLt)
  have HFI := Lib.hid hf
  obtain ⟨r, hr⟩ : ∃ r : Fp, frt (sqx y) = r := ⟨_, rfl⟩
  have HRT := Lib.hid hr
  subst hod
  rw [hr] at hz
  have HRZ := Lib.hid hz
  clear hn hm ho hf hr hz
  have HQ1 := Lib.hid (fun w => split_any n y.val true HNL.out HM.out HOD.out w)
  have HQ2 := Lib.hid (fun w => Good_RB (b32_len (y.val)) w)
  rw [show decide (le (b32 (y.val)) < PP) = true from HGO.out] at HQ2
  have HQ3 := Lib.hid (fun w => IsN.sqx (isN_NB y) w)
  have HQ4 := Lib.hid (fun w => IsN.root (isN_NB (sqx y)) w)
  rw [show fis (sqx y) = true from HFI.out, show frt (sqx y) = r from HRT.out] at HQ4
  have hz0 := zNu
  go_enter Tryd.func56, Tryd.ntmps56
  go_upto_region 1 with fail
  generalize hW1 : World.alloc _ _ = W1
  obtain ⟨N, hN⟩ : ∃ n, w.heap.size = n := ⟨_, rfl⟩
  have HX0 := Lib.hid (show CT W1 N 68 (PB n) by subst hW1; rw [← hN]; exact (allocs3_at w _ _ _).1)
  have HX1 := Lib.hid (show CT W1 (N + 1) 102 (NB 0) by subst hW1; rw [← hN]; exact (allocs3_at w _ _ _).2.1)
  have HX2 := Lib.hid (show CT W1 (N + 1 + 1) 102 (NB 0) by subst hW1; rw [← hN]; exact (allocs3_at w _ _ _).2.2)
  have HB := Lib.hid (show Below N w W1 by subst hW1; rw [← hN]; exact allocs3_below w _ _ _)
  have HN := Lib.hid hN
  rw [hN]
  clear hW1 hN
  refine wp_region_seq 5 ?_
  simp only [List.take_succ_cons, List.take_zero, List.drop_succ_cons, List.drop_zero]
  refine upW_val (by rfl) (by rfl) (by rfl) (fun K hK => quiet_load_ct _ _ rfl N rfl 68 (PB n) 32 (PB_rw n) _ HX0.out Tryd.underlying68 rfl (by kernel_rfl) (hK _ ?_))
  simp only [Act.put, List.setIfInBounds_toArray, List.set]
  refine upW_call (by rfl) (by rfl) (.tuple #[.agg (NB y), .bool true]) _ rfl (by simp) (fun p => ?_) ?_
  · go_big_quiet_op
    exact ⟨_, fun q => Calls.ext_of (HQ1.out q.x), rfl⟩
  simp only [Act.put, List.setIfInBounds_toArray, List.set]
  refine upW_val (by rfl) (by rfl) (by rfl) ?_
  intro K hK
  go_big_quiet_op
  refine hK _ ?_
  refine upW_late (by rfl) (.agg (NB y)) (fun _ => rfl) ?_
  simp only [Act.put, List.setIfInBounds_toArray, List.set]
  refine upW_late (by rfl) (.bool true) (fun _ => rfl) ?_
  simp only [Act.put, List.setIfInBounds_toArray, List.set]
  refine upW_nil (fun wr1 hbr1 => ?_)
  replace HX0 := Lib.hid (HX0.out.ext hbr1)
  replace HX1 := Lib.hid (HX1.out.ext hbr1)
  replace HX2 := Lib.hid (HX2.out.ext hbr1)
  replace HB := Lib.hid (HB.out.trans (hbr1.mono (show N ≤ _ by have := HB.out.size; have := HN.out; omega)))
  clear hbr1
  refine wpList_new1 rfl 102 rfl (NB 0) zNu rfl _ _ rfl rfl (NB y) 32 (NB_rw y) (NB_rw 0).size (by kernel_rfl) rfl rfl (fun B2 wr2 hB2 hbr2 hCB2 => ?_)
  have HB2 := Lib.hid hCB2
  have hlB2X0 : N < B2 := by rw [← hB2]; exact HX0.out.lt
  have hlB2X1 : (N + 1) < B2 := by rw [← hB2]; exact HX1.out.lt
  have hlB2X2 : (N + 1 + 1) < B2 := by rw [← hB2]; exact HX2.out.lt
  have hNB2 : N ≤ B2 := by rw [← hB2]; have := HB.out.size; have := HN.out; omega
  clear hB2 hCB2
  simp only [Act.put, List.setIfInBounds_toArray, List.set]
  replace HX0 := Lib.hid (HX0.out.ext hbr2)
  replace HX1 := Lib.hid (HX1.out.ext hbr2)
  replace HX2 := Lib.hid (HX2.out.ext hbr2)
  replace HB := Lib.hid (HB.out.trans (hbr2.mono (show N ≤ _ by have := HB.out.size; have := HN.out; omega)))
  clear hbr2
  go_upto_region 2 with fail
  refine wp_region_seq 2 ?_
  simp only [List.take_succ_cons, List.take_zero, List.drop_succ_cons, List.drop_zero]
  refine upW_val (by rfl) (by rfl) (by rfl) (fun K hK => quiet_load_ct _ _ rfl B2 rfl 102 (NB y) 32 (NB_rw y) _ HB2.out Tryd.underlying102 rfl (by kernel_rfl) (hK _ ?_))
  simp only [Act.put, List.setIfInBounds_toArray, List.set]
  refine upW_call (by rfl) (by rfl) (.bool true) _ rfl (by simp) (fun p => ?_) ?_
  · go_big_quiet_op
    exact ⟨_, fun q => Calls.ext_of (HQ2.out q.x), rfl⟩
  simp only [Act.put, List.setIfInBounds_toArray, List.set]
  refine upW_nil (fun wr3 hbr3 => ?_)
  replace HX0 := Lib.hid (HX0.out.ext hbr3)
  replace HX1 := Lib.hid (HX1.out.ext hbr3)
  replace HX2 := Lib.hid (HX2.out.ext hbr3)
  replace HB2 := Lib.hid (HB2.out.ext hbr3)
  replace HB := Lib.hid (HB.out.trans (hbr3.mono (show N ≤ _ by have := HB.out.size; have := HN.out; omega)))
  clear hbr3
  go_upto_region 4 with fail
  refine wp_region_seq 6 ?_
  simp only [List.take_succ_cons, List.take_zero, List.drop_succ_cons, List.drop_zero]
  refine upW_val (by rfl) (by rfl) (by rfl) (fun K hK => quiet_load_ct _ _ rfl B2 rfl 102 (NB y) 32 (NB_rw y) _ HB2.out Tryd.underlying102 rfl (by kernel_rfl) (hK _ ?_))
  simp only [Act.put, List.setIfInBounds_toArray, List.set]
  refine upW_call (by rfl) (by rfl) (.agg (NB (sqx y))) _ rfl (by simp) (fun p => ?_) ?_
  · go_big_quiet_op
    exact ⟨_, fun q => Calls.ext_of (HQ3.out q.x), rfl⟩
  simp only [Act.put, List.setIfInBounds_toArray, List.set]
  refine upW_call (by rfl) (by rfl) (.tuple #[.agg (NB r), .bool true]) _ rfl (by simp) (fun p => ?_) ?_
  · go_big_quiet_op
    exact ⟨_, fun q => Calls.ext_of (HQ4.out q.x), rfl⟩
  simp only [Act.put, List.setIfInBounds_toArray, List.set]
  refine upW_val (by rfl) (by rfl) (by rfl) ?_
  intro K hK
  go_big_quiet_op
  refine hK _ ?_
  refine upW_late (by rfl) (.agg (NB r)) (fun _ => rfl) ?_
  simp only [Act.put, List.setIfInBounds_toArray, List.set]
  refine upW_late (by rfl) (.bool true) (fun _ => rfl) ?_
  simp only [Act.put, List.setIfInBounds_toArray, List.set]
  refine upW_nil (fun wr4 hbr4 => ?_)
  replace HX0 := Lib.hid (HX0.out.ext hbr4)
  replace HX1 := Lib.hid (HX1.out.ext hbr4)
  replace HX2 := Lib.hid (HX2.out.ext hbr4)
  replace HB2 := Lib.hid (HB2.out.ext hbr4)
  replace HB := Lib.hid (HB.out.trans (hbr4.mono (show N ≤ _ by have := HB.out.size; have := HN.out; omega)))
  clear hbr4
  refine wpList_new1 rfl 102 rfl (NB 0) zNu rfl _ _ rfl rfl (NB r) 32 (NB_rw r) (NB_rw 0).size (by kernel_rfl) rfl rfl (fun B5 wr5 hB5 hbr5 hCB5 => ?_)
  have HB5 := Lib.hid hCB5
  have hlB5X0 : N < B5 := by rw [← hB5]; exact HX0.out.lt
  have hlB5X1 : (N + 1) < B5 := by rw [← hB5]; exact HX1.out.lt
  have hlB5X2 : (N + 1 + 1) < B5 := by rw [← hB5]; exact HX2.out.lt
  have hlB5B2 : B2 < B5 := by rw [← hB5]; exact HB2.out.lt
  have hNB5 : N ≤ B5 := by rw [← hB5]; have := HB.out.size; have := HN.out; omega
  clear hB5 hCB5
  simp only [Act.put, List.setIfInBounds_toArray, List.set]
  replace HX0 := Lib.hid (HX0.out.ext hbr5)
  replace HX1 := Lib.hid (HX1.out.ext hbr5)
  replace HX2 := Lib.hid (HX2.out.ext hbr5)
  replace HB2 := Lib.hid (HB2.out.ext hbr5)
  replace HB := Lib.hid (HB.out.trans (hbr5.mono (show N ≤ _ by have := HB.out.size; have := HN.out; omega)))
  clear hbr5
  go_upto_region 5 with fail
  refine wp_region_seq 9 ?_
  simp only [List.take_succ_cons, List.take_zero, List.drop_succ_cons, List.drop_zero]
  refine upW_val (by rfl) (by rfl) (by rfl) ?_
  intro K hK
  go_big_quiet_op
  refine hK _ ?_
  refine upW_val (by rfl) (by rfl) (by rfl) ?_
  intro K hK
  go_big_quiet_op
  refine hK _ ?_
  refine upW_val (by rfl) (by rfl) (by rfl) ?_
  intro K hK
  go_big_quiet_op
  refine hK _ ?_
  refine upW_val (by rfl) (by rfl) (by rfl) ?_
  intro K hK
  go_big_quiet_op
  refine hK _ ?_
  refine upW_val (by rfl) (by rfl) (by rfl) ?_
  intro K hK
  go_big_quiet_op
  refine hK _ ?_
  refine upW_val (by rfl) (by rfl) (by rfl) (fun K hK => quiet_load_ct _ _ rfl B5 rfl 102 (NB r) 32 (NB_rw r) _ HB5.out Tryd.underlying102 rfl (by kernel_rfl) (hK _ ?_))
  simp only [Act.put, List.setIfInBounds_toArray, List.set]
  refine upW_late (by rfl) (.agg (NB 0)) (fun w => run_built _ _ _ _ rfl _ (by kernel_rfl) w) ?_
  simp only [Act.put, List.setIfInBounds_toArray, List.set]
  refine upW_late (by rfl) (.bool true) (fun w => run_eqN' _ _ _ _ rfl r 0 rfl rfl true HRZ.out w) ?_
  simp only [Act.put, List.setIfInBounds_toArray, List.set]
  refine upW_val (by rfl) (by rfl) (by rfl) ?_
  intro K hK
  go_big_quiet_op
  refine hK _ ?_
  refine upW_nil (fun wr6 hbr6 => ?_)
  replace HX0 := Lib.hid (HX0.out.ext hbr6)
  replace HX1 := Lib.hid (HX1.out.ext hbr6)
  replace HX2 := Lib.hid (HX2.out.ext hbr6)
  replace HB2 := Lib.hid (HB2.out.ext hbr6)
  replace HB5 := Lib.hid (HB5.out.ext hbr6)
  replace HB := Lib.hid (HB.out.trans (hbr6.mono (show N ≤ _ by have := HB.out.size; have := HN.out; omega)))
  clear hbr6
  go_upto_region 6 with fail
  refine wp_region_seq 2 ?_
  simp only [List.take_succ_cons, List.take_zero, List.drop_succ_cons, List.drop_zero]
  refine upW_late (by rfl) (.agg (NB 0)) (fun w => run_built _ _ _ _ rfl _ (by kernel_rfl) w) ?_
  simp only [Act.put, List.setIfInBounds_toArray, List.set]
  refine upW_late (by rfl) (.agg (NB 0)) (fun w => run_built _ _ _ _ rfl _ (by kernel_rfl) w) ?_
  simp only [Act.put, List.setIfInBounds_toArray, List.set]
  refine upW_nil (fun wr7 hbr7 => ?_)
  replace HX0 := Lib.hid (HX0.out.ext hbr7)
  replace HX1 := Lib.hid (HX1.out.ext hbr7)
  replace HX2 := Lib.hid (HX2.out.ext hbr7)
  replace HB2 := Lib.hid (HB2.out.ext hbr7)
  replace HB5 := Lib.hid (HB5.out.ext hbr7)
  replace HB := Lib.hid (HB.out.trans (hbr7.mono (show N ≤ _ by have := HB.out.size; have := HN.out; omega)))
  clear hbr7
  refine wpList_store_ct rfl 102 _ _ rfl (N + 1) (NB 0) rfl rfl 102 (NB 0) 32 HX1.out (by kernel_rfl) (NB_rw 0) (NB_rw 0) rfl (fun wr8 hSwr8 hOwr8 hWwr8 => ?_)
  replace HX1 := Lib.hid hSwr8
  replace HB := Lib.hid (hWwr8 _ _ HB.out (by omega))
  replace HX0 := Lib.hid (HX0.out.other (hOwr8 _ (by omega)))
  replace HX2 := Lib.hid (HX2.out.other (hOwr8 _ (by omega)))
  replace HB2 := Lib.hid (HB2.out.other (hOwr8 _ (by omega)))
  replace HB5 := Lib.hid (HB5.out.other (hOwr8 _ (by omega)))
  clear hSwr8 hOwr8 hWwr8
  refine wpList_store_ct rfl 102 _ _ rfl (N + 1 + 1) (NB 0) rfl rfl 102 (NB 0) 32 HX2.out (by kernel_rfl) (NB_rw 0) (NB_rw 0) rfl (fun wr9 hSwr9 hOwr9 hWwr9 => ?_)
  replace HX2 := Lib.hid hSwr9
  replace HB := Lib.hid (hWwr9 _ _ HB.out (by omega))
  replace HX0 := Lib.hid (HX0.out.other (hOwr9 _ (by omega)))
  replace HX1 := Lib.hid (HX1.out.other (hOwr9 _ (by omega)))
  replace HB2 := Lib.hid (HB2.out.other (hOwr9 _ (by omega)))
  replace HB5 := Lib.hid (HB5.out.other (hOwr9 _ (by omega)))
  clear hSwr9 hOwr9 hWwr9
  go_wp2
  refine bodyPost_ret (results_ct2_slot (p := 2) (p' := 3) (q := 4) (by rfl) _ _ (N + 1) (N + 1 + 1) 102 102 (NB 0) (NB 0) 32 32 _ _ (.bool false) (by rfl) HX1.out (NB_rw 0) (by rfl) HX2.out (NB_rw 0) Tryd.underlying102 rfl (by kernel_rfl) Tryd.underlying102 rfl (by kernel_rfl) rfl) rfl ⟨by first | rfl | (rfl), by rw [HN.out]; exact HB.out⟩
set_option maxRecDepth 100000 in
set_option maxHeartbeats 1000000 in
theorem XY_d (n m : Nat) (o : Bool) (hn : n < 115792089237316195423570985008687907853269984665640564039457584007913129639936) (hm : n % 57896044618658097711785492504343953926634992332820282019728792003956564819968 = m) (ho : decide (57896044618658097711785492504343953926634992332820282019728792003956564819968 ≤ n) = o) (y : Fp) (hy : y.val = m) (hf : fis (sqx y) = true) (hod : o = true) (hz : decide (frt (sqx y) = 0) = false) (w : World) :
    Calls Tryd.prog 56 #[.agg (PB n)] w fun e w' => e = .returned (.tuple #[.agg (NB (-frt (sqx y))), .agg (NB y), .bool true]) ∧ Below w.heap.size w w' := by
  have HNL := Lib.hid hn
  have HM := Lib.hid hm
  have HOD := Lib.hid ho
  subst hy
  have HGO := Lib.hid (show decide (le (b32 y.val) < PP) = true by rw [le_nb]; exact decide_eq_true y.isLt)
  have HFI := Lib.hid hf
  obtain ⟨r, hr⟩ : ∃ r : Fp, frt (sqx y) = r := ⟨_, rfl⟩
  have HRT := Lib.hid hr
  subst hod
  rw [hr] at hz
  have HRZ := Lib.hid hz
  rw [hr]
  clear hn hm ho hf hr hz
  have HQ1 := Lib.hid (fun w => split_any n y.val true HNL.out HM.out HOD.out w)
  have HQ2 := Lib.hid (fun w => Good_RB (b32_len (y.val)) w)
  rw [show decide (le (b32 (y.val)) < PP) = true from HGO.out] at HQ2
  have HQ3 := Lib.hid (fun w => IsN.sqx (isN_NB y) w)
  have HQ4 := Lib.hid (fun w => IsN.root (isN_NB (sqx y)) w)
  rw [show fis (sqx y) = true from HFI.out, show frt (sqx y) = r from HRT.out] at HQ4
  obtain ⟨c5, hc5⟩ : ∃ zq : Fp, zq = -r := ⟨_, rfl⟩
  have HE5 := Lib.hid hc5
  clear hc5
  have HQ6 := Lib.hid (fun w => IsN.neg (isN_NB r) w)
  rw [← HE5.out] at HQ6
  have hz0 := zNu
  go_enter Tryd.func56, Tryd.ntmps56
  go_upto_region 1 with fail
  generalize hW1 : World.alloc _ _ = W1
  obtain ⟨N, hN⟩ : ∃ n, w.heap.size = n := ⟨_, rfl⟩
  have HX0 := Lib.hid (show CT W1 N 68 (PB n) by subst hW1; rw [← hN]; exact (allocs3_at w _ _ _).1)
  have HX1 := Lib.hid (show CT W1 (N + 1) 102 (NB 0) by subst hW1; rw [← hN]; exact (allocs3_at w _ _ _).2.1)
  have HX2 := Lib.hid (show CT W1 (N + 1 + 1) 102 (NB 0) by subst hW1; rw [← hN]; exact (allocs3_at w _ _ _).2.2)
  have HB := Lib.hid (show Below N w W1 by subst hW1; rw [← hN]; exact allocs3_below w _ _ _)
  have HN := Lib.hid hN
  rw [hN]
  clear hW1 hN
  refine wp_region_seq 5 ?_
  simp only [List.take_succ_cons, List.take_zero, List.drop_succ_cons, List.drop_zero]
  refine upW_val (by rfl) (by rfl) (by rfl) (fun K hK => quiet_load_ct _ _ rfl N rfl 68 (PB n) 32 (PB_rw n) _ HX0.out Tryd.underlying68 rfl (by kernel_rfl) (hK _ ?_))
  simp only [Act.put, List.setIfInBounds_toArray, List.set]
  refine upW_call (by rfl) (by rfl) (.tuple #[.agg (NB y), .bool true]) _ rfl (by simp) (fun p => ?_) ?_
  · go_big_quiet_op
    exact ⟨_, fun q => Calls.ext_of (HQ1.out q.x), rfl⟩
  simp only [Act.put, List.setIfInBounds_toArray, List.set]
  refine upW_val (by rfl) (by rfl) (by rfl) ?_
  intro K hK
  go_big_quiet_op
  refine hK _ ?_
  refine upW_late (by rfl) (.agg (NB y)) (fun _ => rfl) ?_
  simp only [Act.put, List.setIfInBounds_toArray, List.set]
  refine upW_late (by rfl) (.bool true) (fun _ => rfl) ?_
  simp only [Act.put, List.setIfInBounds_toArray, List.set]
  refine upW_nil (fun wr1 hbr1 => ?_)
  replace HX0 := Lib.hid (HX0.out.ext hbr1)
  replace HX1 := Lib.hid (HX1.out.ext hbr1)
  replace HX2 := Lib.hid (HX2.out.ext hbr1)
  replace HB := Lib.hid (HB.out.trans (hbr1.mono (show N ≤ _ by have := HB.out.size; have := HN.out; omega)))
  clear hbr1
  refine wpList_new1 rfl 102 rfl (NB 0) zNu rfl _ _ rfl rfl (NB y) 32 (NB_rw y) (NB_rw 0).size (by kernel_rfl) rfl rfl (fun B2 wr2 hB2 hbr2 hCB2 => ?_)
  have HB2 := Lib.hid hCB2
  have hlB2X0 : N < B2 := by rw [← hB2]; exact HX0.out.lt
  have hlB2X1 : (N + 1) < B2 := by rw [← hB2]; exact HX1.out.lt
  have hlB2X2 : (N + 1 + 1) < B2 := by rw [← hB2]; exact HX2.out.lt
  have hNB2 : N ≤ B2 := by rw [← hB2]; have := HB.out.size; have := HN.out; omega
  clear hB2 hCB2
  simp only [Act.put, List.setIfInBounds_toArray, List.set]
  replace HX0 := Lib.hid (HX0.out.ext hbr2)
  replace HX1 := Lib.hid (HX1.out.ext hbr2)
  replace HX2 := Lib.hid (HX2.out.ext hbr2)
  replace HB := Lib.hid (HB.out.trans (hbr2.mono (show N ≤ _ by have := HB.out.size; have := HN.out; omega)))
  clear hbr2
  go_upto_region 2 with fail
  refine wp_region_seq 2 ?_
  simp only [List.take_succ_cons, List.take_zero, List.drop_succ_cons, List.drop_zero]
  refine upW_val (by rfl) (by rfl) (by rfl) (fun K hK => quiet_load_ct _ _ rfl B2 rfl 102 (NB y) 32 (NB_rw y) _ HB2.out Tryd.underlying102 rfl (by kernel_rfl) (hK _ ?_))
  simp only [Act.put, List.setIfInBounds_toArray, List.set]
  refine upW_call (by rfl) (by rfl) (.bool true) _ rfl (by simp) (fun p => ?_) ?_
  · go_big_quiet_op
    exact ⟨_, fun q => Calls.ext_of (HQ2.out q.x), rfl⟩
  simp only [Act.put, List.setIfInBounds_toArray, List.set]
  refine upW_nil (fun wr3 hbr3 => ?_)
  replace HX0 := Lib.hid (HX0.out.ext hbr3)
  replace HX1 := Lib.hid (HX1.out.ext hbr3)
  replace HX2 := Lib.hid (HX2.out.ext hbr3)
  replace HB2 := Lib.hid (HB2.out.ext hbr3)
  replace HB := Lib.hid (HB.out.trans (hbr3.mono (show N ≤ _ by have := HB.out.size; have := HN.out; omega)))
  clear hbr3
  go_upto_region 4 with fail
  refine wp_region_seq 6 ?_
  simp only [List.take_succ_cons, List.take_zero, List.drop_succ_cons, List.drop_zero]
  refine upW_val (by rfl) (by rfl) (by rfl) (fun K hK => quiet_load_ct _ _ rfl B2 rfl 102 (NB y) 32 (NB_rw y) _ HB2.out Tryd.underlying102 rfl (by kernel_rfl) (hK _ ?_))
  simp only [Act.put, List.setIfInBounds_toArray, List.set]
  refine upW_call (by rfl) (by rfl) (.agg (NB (sqx y))) _ rfl (by simp) (fun p => ?_) ?_
  · go_big_quiet_op
    exact ⟨_, fun q => Calls.ext_of (HQ3.out q.x), rfl⟩
  simp only [Act.put, List.setIfInBounds_toArray, List.set]
  refine upW_call (by rfl) (by rfl) (.tuple #[.agg (NB r), .bool true]) _ rfl (by simp) (fun p => ?_) ?_
  · go_big_quiet_op
    exact ⟨_, fun q => Calls.ext_of (HQ4.out q.x), rfl⟩
  simp only [Act.put, List.setIfInBounds_toArray, List.set]
  refine upW_val (by rfl) (by rfl) (by rfl) ?_
  intro K hK
  go_big_quiet_op
  refine hK _ ?_
  refine upW_late (by rfl) (.agg (NB r)) (fun _ => rfl) ?_
  simp only [Act.put, List.setIfInBounds_toArray, List.set]
  refine upW_late (by rfl) (.bool true) (fun _ => rfl) ?_
  simp only [Act.put, List.setIfInBounds_toArray, List.set]
  refine upW_nil (fun wr4 hbr4 => ?_)
  replace HX0 := Lib.hid (HX0.out.ext hbr4)
  replace HX1 := Lib.hid (HX1.out.ext hbr4)
  replace HX2 := Lib.hid (HX2.out.ext hbr4)
  replace HB2 := Lib.hid (HB2.out.ext hbr4)
  replace HB := Lib.hid (HB.out.trans (hbr4.mono (show N ≤ _ by have := HB.out.size; have := HN.out; omega)))
  clear hbr4
  refine wpList_new1 rfl 102 rfl (NB 0) zNu rfl _ _ rfl rfl (NB r) 32 (NB_rw r) (NB_rw 0).size (by kernel_rfl) rfl rfl (fun B5 wr5 hB5 hbr5 hCB5 => ?_)
  have HB5 := Lib.hid hCB5
  have hlB5X0 : N < B5 := by rw [← hB5]; exact HX0.out.lt
  have hlB5X1 : (N + 1) < B5 := by rw [← hB5]; exact HX1.out.lt
  have hlB5X2 : (N + 1 + 1) < B5 := by rw [← hB5]; exact HX2.out.lt
  have hlB5B2 : B2 < B5 := by rw [← hB5]; exact HB2.out.lt
  have hNB5 : N ≤ B5 := by rw [← hB5]; have := HB.out.size; have := HN.out; omega
  clear hB5 hCB5
  simp only [Act.put, List.setIfInBounds_toArray, List.set]
  replace HX0 := Lib.hid (HX0.out.ext hbr5)
  replace HX1 := Lib.hid (HX1.out.ext hbr5)
  replace HX2 := Lib.hid (HX2.out.ext hbr5)
  replace HB2 := Lib.hid (HB2.out.ext hbr5)
  replace HB := Lib.hid (HB.out.trans (hbr5.mono (show N ≤ _ by have := HB.out.size; have := HN.out; omega)))
  clear hbr5
  go_upto_region 5 with fail
  refine wp_region_seq 9 ?_
  simp only [List.take_succ_cons, List.take_zero, List.drop_succ_cons, List.drop_zero]
  refine upW_val (by rfl) (by rfl) (by rfl) ?_
  intro K hK
  go_big_quiet_op
  refine hK _ ?_
  refine upW_val (by rfl) (by rfl) (by rfl) ?_
  intro K hK
  go_big_quiet_op
  refine hK _ ?_
  refine upW_val (by rfl) (by rfl) (by rfl) ?_
  intro K hK
  go_big_quiet_op
  refine hK _ ?_
  refine upW_val (by rfl) (by rfl) (by rfl) ?_
  intro K hK
  go_big_quiet_op
  refine hK _ ?_
  refine upW_val (by rfl) (by rfl) (by rfl) ?_
  intro K hK
  go_big_quiet_op
  refine hK _ ?_
  refine upW_val (by rfl) (by rfl) (by rfl) (fun K hK => quiet_load_ct _ _ rfl B5 rfl 102 (NB r) 32 (NB_rw r) _ HB5.out Tryd.underlying102 rfl (by kernel_rfl) (hK _ ?_))
  simp only [Act.put, List.setIfInBounds_toArray, List.set]
  refine upW_late (by rfl) (.agg (NB 0)) (fun w => run_built _ _ _ _ rfl _ (by kernel_rfl) w) ?_
  simp only [Act.put, List.setIfInBounds_toArray, List.set]
  refine upW_late (by rfl) (.bool false) (fun w => run_eqN' _ _ _ _ rfl r 0 rfl rfl false HRZ.out w) ?_
  simp only [Act.put, List.setIfInBounds_toArray, List.set]
  refine upW_val (by rfl) (by rfl) (by rfl) ?_
  intro K hK
  go_big_quiet_op
  refine hK _ ?_
  refine upW_nil (fun wr6 hbr6 => ?_)
  replace HX0 := Lib.hid (HX0.out.ext hbr6)
  replace HX1 := Lib.hid (HX1.out.ext hbr6)
  replace HX2 := Lib.hid (HX2.out.ext hbr6)
  replace HB2 := Lib.hid (HB2.out.ext hbr6)
  replace HB5 := Lib.hid (HB5.out.ext hbr6)
  replace HB := Lib.hid (HB.out.trans (hbr6.mono (show N ≤ _ by have := HB.out.size; have := HN.out; omega)))
  clear hbr6
  go_upto_region 8 with fail
  refine wp_region_seq 2 ?_
  simp only [List.take_succ_cons, List.take_zero, List.drop_succ_cons, List.drop_zero]
  refine upW_val (by rfl) (by rfl) (by rfl) (fun K hK => quiet_load_ct _ _ rfl B5 rfl 102 (NB r) 32 (NB_rw r) _ HB5.out Tryd.underlying102 rfl (by kernel_rfl) (hK _ ?_))
  simp only [Act.put, List.setIfInBounds_toArray, List.set]
  refine upW_call (by rfl) (by rfl) (.agg (NB c5)) _ rfl (by simp) (fun p => ?_) ?_
  · go_big_quiet_op
    exact ⟨_, fun q => Calls.ext_of (HQ6.out q.x), rfl⟩
  simp only [Act.put, List.setIfInBounds_toArray, List.set]
  refine upW_nil (fun wr7 hbr7 => ?_)
  replace HX0 := Lib.hid (HX0.out.ext hbr7)
  replace HX1 := Lib.hid (HX1.out.ext hbr7)
  replace HX2 := Lib.hid (HX2.out.ext hbr7)
  replace HB2 := Lib.hid (HB2.out.ext hbr7)
  replace HB5 := Lib.hid (HB5.out.ext hbr7)
  replace HB := Lib.hid (HB.out.trans (hbr7.mono (show N ≤ _ by have := HB.out.size; have := HN.out; omega)))
  clear hbr7
  refine wpList_store_ct rfl 102 _ _ rfl B5 (NB c5) rfl rfl 102 (NB r) 32 HB5.out (by kernel_rfl) (NB_rw r) (NB_rw c5) rfl (fun wr8 hSwr8 hOwr8 hWwr8 => ?_)
  replace HB5 := Lib.hid hSwr8
  replace HB := Lib.hid (hWwr8 _ _ HB.out (by omega))
  replace HX0 := Lib.hid (HX0.out.other (hOwr8 _ (by omega)))
  replace HX1 := Lib.hid (HX1.out.other (hOwr8 _ (by omega)))
  replace HX2 := Lib.hid (HX2.out.other (hOwr8 _ (by omega)))
  replace HB2 := Lib.hid (HB2.out.other (hOwr8 _ (by omega)))
  clear hSwr8 hOwr8 hWwr8
  go_upto_region 9 with fail
  refine wp_region_ret2 (by kernel_rfl) (by kernel_rfl) (by kernel_rfl) (by kernel_rfl) (by kernel_rfl) (by kernel_rfl) (by kernel_rfl) (by kernel_rfl) (by kernel_rfl) rfl rfl rfl rfl rfl 40 41 rfl rfl rfl rfl (by decide) 102 32 _ rfl Tryd.underlying102 (by kernel_rfl) _ _ _ _ _ _ rfl rfl rfl rfl B5 B2 (N + 1) (N + 1 + 1) _ _ _ _ (NB c5) (NB y) (NB 0) (NB 0) (NB_rw c5) (NB_rw y) (NB_rw 0) (NB_rw 0) HB5.out HB2.out HX1.out HX2.out (by omega) (by omega) rfl rfl rfl rfl rfl rfl rfl rfl rfl rfl (.bool true) (fun _ => rfl) (fun wr9 hSwr9 hS2wr9 hOwr9 hWwr9 => ?_)
  replace HX1 := Lib.hid hSwr9
  replace HX2 := Lib.hid hS2wr9
  replace HB := Lib.hid (hWwr9 _ _ HB.out (by omega) (by omega))
  replace HX0 := Lib.hid (HX0.out.other (hOwr9 _ (by omega) (by omega)))
  replace HB2 := Lib.hid (HB2.out.other (hOwr9 _ (by omega) (by omega)))
  replace HB5 := Lib.hid (HB5.out.other (hOwr9 _ (by omega) (by omega)))
  clear hSwr9 hS2wr9 hOwr9 hWwr9
  simp only [Act.put, List.setIfInBounds_toArray, List.set]
  go_wp2
  refine bodyPost_ret (results_ct2_slot (p := 2) (p' := 3) (q := 4) (by rfl) _ _ (N + 1) (N + 1 + 1) 102 102 (NB c5) (NB y) 32 32 _ _ (.bool true) (by rfl) HX1.out (NB_rw c5) (by rfl) HX2.out (NB_rw y) Tryd.underlying102 rfl (by kernel_rfl) Tryd.underlying102 rfl (by kernel_rfl) rfl) rfl ⟨by first | rfl | (simp only [HE5.out]), by rw [HN.out]; exact HB.out⟩
set_option maxRecDepth 100000 in
set_option maxHeartbeats 1000000 in
theorem XY_e (n m : Nat) (o : Bool) (hn : n < 115792089237316195423570985008687907853269984665640564039457584007913129639936) (hm : n % 57896044618658097711785492504343953926634992332820282019728792003956564819968 = m) (ho : decide (57896044618658097711785492504343953926634992332820282019728792003956564819968 ≤ n) = o) (y : Fp) (hy : y.val = m) (hf : fis (sqx y) = true) (hod : o = false) (w : World) :
    Calls Tryd.prog 56 #[.agg (PB n)] w fun e w' => e = .returned (.tuple #[.agg (NB (frt (sqx y))), .agg (NB y), .bool true]) ∧ Below w.heap.size w w' := by
  have HNL := Lib.hid hn
  have HM := Lib.hid hm
  have HOD := Lib.hid ho
  subst hy
  have HGO := Lib.hid (show decide (le (b32 y.val) < PP) = true by rw [le_nb]; exact decide_eq_true y.isLt)
  have HFI := Lib.hid hf
  obtain ⟨r, hr⟩ : ∃ r : Fp, frt (sqx y) = r := ⟨_, rfl⟩
  have HRT := Lib.hid hr
  subst hod
  rw [hr]
  clear hn hm ho hf hr
  have HQ1 := Lib.hid (fun w => split_any n y.val false HNL.out HM.out HOD.out w)
  have HQ2 := Lib.hid (fun w => Good_RB (b32_len (y.val)) w)
  rw [show decide (le (b32 (y.val)) < PP) = true from HGO.out] at HQ2
  have HQ3 := Lib.hid (fun w => IsN.sqx (isN_NB y) w)
  have HQ4 := Lib.hid (fun w => IsN.root (isN_NB (sqx y)) w)
  rw [show fis (sqx y) = true from HFI.out, show frt (sqx y) = r from HRT.out] at HQ4
  have hz0 := zNu
  go_enter Tryd.func56, Tryd.ntmps56
  go_upto_region 1 with fail
  generalize hW1 : World.alloc _ _ = W1
  obtain ⟨N, hN⟩ : ∃ n, w.heap.size = n := ⟨_, rfl⟩
  have HX0 := Lib.hid (show CT W1 N 68 (PB n) by subst hW1; rw [← hN]; exact (allocs3_at w _ _ _).1)
  have HX1 := Lib.hid (show CT W1 (N + 1) 102 (NB 0) by subst hW1; rw [← hN]; exact (allocs3_at w _ _ _).2.1)
  have HX2 := Lib.hid (show CT W1 (N + 1 + 1) 102 (NB 0) by subst hW1; rw [← hN]; exact (allocs3_at w _ _ _).2.2)
  have HB := Lib.hid (show Below N w W1 by subst hW1; rw [← hN]; exact allocs3_below w _ _ _)
  have HN := Lib.hid hN
  rw [hN]
  clear hW1 hN
  refine wp_region_seq 5 ?_
  simp only [List.take_succ_cons, List.take_zero, List.drop_succ_cons, List.drop_zero]
  refine upW_val (by rfl) (by rfl) (by rfl) (fun K hK => quiet_load_ct _ _ rfl N rfl 68 (PB n) 32 (PB_rw n) _ HX0.out Tryd.underlying68 rfl (by kernel_rfl) (hK _ ?_))
  simp only [Act.put, List.setIfInBounds_toArray, List.set]
  refine upW_call (by rfl) (by rfl) (.tuple #[.agg (NB y), .bool false]) _ rfl (by simp) (fun p => ?_) ?_
  · go_big_quiet_op
    exact ⟨_, fun q => Calls.ext_of (HQ1.out q.x), rfl⟩
  simp only [Act.put, List.setIfInBounds_toArray, List.set]
  refine upW_val (by rfl) (by rfl) (by rfl) ?_
  intro K hK
  go_big_quiet_op
  refine hK _ ?_
  refine upW_late (by rfl) (.agg (NB y)) (fun _ => rfl) ?_
  simp only [Act.put, List.setIfInBounds_toArray, List.set]
  refine upW_late (by rfl) (.bool false) (fun _ => rfl) ?_
  simp only [Act.put, List.setIfInBounds_toArray, List.set]
  refine upW_nil (fun wr1 hbr1 => ?_)
  replace HX0 := Lib.hid (HX0.out.ext hbr1)
  replace HX1 := Lib.hid (HX1.out.ext hbr1)
  replace HX2 := Lib.hid (HX2.out.ext hbr1)
  replace HB := Lib.hid (HB.out.trans (hbr1.mono (show N ≤ _ by have := HB.out.size; have := HN.out; omega)))
  clear hbr1
  refine wpList_new1 rfl 102 rfl (NB 0) zNu rfl _ _ rfl rfl (NB y) 32 (NB_rw y) (NB_rw 0).size (by kernel_rfl) rfl rfl (fun B2 wr2 hB2 hbr2 hCB2 => ?_)
  have HB2 := Lib.hid hCB2
  have hlB2X0 : N < B2 := by rw [← hB2]; exact HX0.out.lt
  have hlB2X1 : (N + 1) < B2 := by rw [← hB2]; exact HX1.out.lt
  have hlB2X2 : (N + 1 + 1) < B2 := by rw [← hB2]; exact HX2.out.lt
  have hNB2 : N ≤ B2 := by rw [← hB2]; have := HB.out.size; have := HN.out; omega
  clear hB2 hCB2
  simp only [Act.put, List.setIfInBounds_toArray, List.set]
  replace HX0 := Lib.hid (HX0.out.ext hbr2)
  replace HX1 := Lib.hid (HX1.out.ext hbr2)
  replace HX2 := Lib.hid (HX2.out.ext hbr2)
  replace HB := Lib.hid (HB.out.trans (hbr2.mono (show N ≤ _ by have := HB.out.size; have := HN.out; omega)))
  clear hbr2
  go_upto_region 2 with fail
  refine wp_region_seq 2 ?_
  simp only [List.take_succ_cons, List.take_zero, List.drop_succ_cons, List.drop_zero]
  refine upW_val (by rfl) (by rfl) (by rfl) (fun K hK => quiet_load_ct _ _ rfl B2 rfl 102 (NB y) 32 (NB_rw y) _ HB2.out Tryd.underlying102 rfl (by kernel_rfl) (hK _ ?_))
  simp only [Act.put, List.setIfInBounds_toArray, List.set]
  refine upW_call (by rfl) (by rfl) (.bool true) _ rfl (by simp) (fun p => ?_) ?_
  · go_big_quiet_op
    exact ⟨_, fun q => Calls.ext_of (HQ2.out q.x), rfl⟩
  simp only [Act.put, List.setIfInBounds_toArray, List.set]
  refine upW_nil (fun wr3 hbr3 => ?_)
  replace HX0 := Lib.hid (HX0.out.ext hbr3)
  replace HX1 := Lib.hid (HX1.out.ext hbr3)
  replace HX2 := Lib.hid (HX2.out.ext hbr3)
  replace HB2 := Lib.hid (HB2.out.ext hbr3)
  replace HB := Lib.hid (HB.out.trans (hbr3.mono (show N ≤ _ by have := HB.out.size; have := HN.out; omega)))
  clear hbr3
  go_upto_region 4 with fail
  refine wp_region_seq 6 ?_
  simp only [List.take_succ_cons, List.take_zero, List.drop_succ_cons, List.drop_zero]
  refine upW_val (by rfl) (by rfl) (by rfl) (fun K hK => quiet_load_ct _ _ rfl B2 rfl 102 (NB y) 32 (NB_rw y) _ HB2.out Tryd.underlying102 rfl (by kernel_rfl) (hK _ ?_))
  simp only [Act.put, List.setIfInBounds_toArray, List.set]
  refine upW_call (by rfl) (by rfl) (.agg (NB (sqx y))) _ rfl (by simp) (fun p => ?_) ?_
  · go_big_quiet_op
    exact ⟨_, fun q => Calls.ext_of (HQ3.out q.x), rfl⟩
  simp only [Act.put, List.setIfInBounds_toArray, List.set]
  refine upW_call (by rfl) (by rfl) (.tuple #[.agg (NB r), .bool true]) _ rfl (by simp) (fun p => ?_) ?_
  · go_big_quiet_op
    exact ⟨_, fun q => Calls.ext_of (HQ4.out q.x), rfl⟩
  simp only [Act.put, List.setIfInBounds_toArray, List.set]
  refine upW_val (by rfl) (by rfl) (by rfl) ?_
  intro K hK
  go_big_quiet_op
  refine hK _ ?_
  refine upW_late (by rfl) (.agg (NB r)) (fun _ => rfl) ?_
  simp only [Act.put, List.setIfInBounds_toArray, List.set]
  refine upW_late (by rfl) (.bool true) (fun _ => rfl) ?_
  simp only [Act.put, List.setIfInBounds_toArray, List.set]
  refine upW_nil (fun wr4 hbr4 => ?_)
  replace HX0 := Lib.hid (HX0.out.ext hbr4)
  replace HX1 := Lib.hid (HX1.out.ext hbr4)
  replace HX2 := Lib.hid (HX2.out.ext hbr4)
  replace HB2 := Lib.hid (HB2.out.ext hbr4)
  replace HB := Lib.hid (HB.out.trans (hbr4.mono (show N ≤ _ by have := HB.out.size; have := HN.out; omega)))
  clear hbr4
  refine wpList_new1 rfl 102 rfl (NB 0) zNu rfl _ _ rfl rfl (NB r) 32 (NB_rw r) (NB_rw 0).size (by kernel_rfl) rfl rfl (fun B5 wr5 hB5 hbr5 hCB5 => ?_)
  have HB5 := Lib.hid hCB5
  have hlB5X0 : N < B5 := by rw [← hB5]; exact HX0.out.lt
  have hlB5X1 : (N + 1) < B5 := by rw [← hB5]; exact HX1.out.lt
  have hlB5X2 : (N + 1 + 1) < B5 := by rw [← hB5]; exact HX2.out.lt
  have hlB5B2 : B2 < B5 := by rw [← hB5]; exact HB2.out.lt
  have hNB5 : N ≤ B5 := by rw [← hB5]; have := HB.out.size; have := HN.out; omega
  clear hB5 hCB5
  simp only [Act.put, List.setIfInBounds_toArray, List.set]
  replace HX0 := Lib.hid (HX0.out.ext hbr5)
  replace HX1 := Lib.hid (HX1.out.ext hbr5)
  replace HX2 := Lib.hid (HX2.out.ext hbr5)
  replace HB2 := Lib.hid (HB2.out.ext hbr5)
  replace HB := Lib.hid (HB.out.trans (hbr5.mono (show N ≤ _ by have := HB.out.size; have := HN.out; omega)))
  clear hbr5
  go_upto_region 5 with fail
  refine wp_region_seq 9 ?_
  simp only [List.take_succ_cons, List.take_zero, List.drop_succ_cons, List.drop_zero]
  refine upW_val (by rfl) (by rfl) (by rfl) ?_
  intro K hK
  go_big_quiet_op
  refine hK _ ?_
  refine upW_val (by rfl) (by rfl) (by rfl) ?_
  intro K hK
  go_big_quiet_op
  refine hK _ ?_
  refine upW_val (by rfl) (by rfl) (by rfl) ?_
  intro K hK
  go_big_quiet_op
  refine hK _ ?_
  refine upW_val (by rfl) (by rfl) (by rfl) ?_
  intro K hK
  go_big_quiet_op
  refine hK _ ?_
  refine upW_val (by rfl) (by rfl) (by rfl) ?_
  intro K hK
  go_big_quiet_op
  refine hK _ ?_
  refine upW_skip (by rfl) ?_
  simp only [Act.put, List.setIfInBounds_toArray, List.set]
  refine upW_skip (by rfl) ?_
  simp only [Act.put, List.setIfInBounds_toArray, List.set]
  refine upW_skip (by rfl) ?_
  simp only [Act.put, List.setIfInBounds_toArray, List.set]
  refine upW_val (by rfl) (by rfl) (by rfl) ?_
  intro K hK
  go_big_quiet_op
  refine hK _ ?_
  refine upW_nil (fun wr6 hbr6 => ?_)
  replace HX0 := Lib.hid (HX0.out.ext hbr6)
  replace HX1 := Lib.hid (HX1.out.ext hbr6)
  replace HX2 := Lib.hid (HX2.out.ext hbr6)
  replace HB2 := Lib.hid (HB2.out.ext hbr6)
  replace HB5 := Lib.hid (HB5.out.ext hbr6)
  replace HB := Lib.hid (HB.out.trans (hbr6.mono (show N ≤ _ by have := HB.out.size; have := HN.out; omega)))
  clear hbr6
  go_upto_region 9 with fail
  refine wp_region_ret2 (by kernel_rfl) (by kernel_rfl) (by kernel_rfl) (by kernel_rfl) (by kernel_rfl) (by kernel_rfl) (by kernel_rfl) (by kernel_rfl) (by kernel_rfl) rfl rfl rfl rfl rfl 40 41 rfl rfl rfl rfl (by decide) 102 32 _ rfl Tryd.underlying102 (by kernel_rfl) _ _ _ _ _ _ rfl rfl rfl rfl B5 B2 (N + 1) (N + 1 + 1) _ _ _ _ (NB r) (NB y) (NB 0) (NB 0) (NB_rw r) (NB_rw y) (NB_rw 0) (NB_rw 0) HB5.out HB2.out HX1.out HX2.out (by omega) (by omega) rfl rfl rfl rfl rfl rfl rfl rfl rfl rfl (.bool true) (fun _ => rfl) (fun wr7 hSwr7 hS2wr7 hOwr7 hWwr7 => ?_)
  replace HX1 := Lib.hid hSwr7
  replace HX2 := Lib.hid hS2wr7
  replace HB := Lib.hid (hWwr7 _ _ HB.out (by omega) (by omega))
  replace HX0 := Lib.hid (HX0.out.other (hOwr7 _ (by omega) (by omega)))
  replace HB2 := Lib.hid (HB2.out.other (hOwr7 _ (by omega) (by omega)))
  replace HB5 := Lib.hid (HB5.out.other (hOwr7 _ (by omega) (by omega)))
  clear hSwr7 hS2wr7 hOwr7 hWwr7
  simp only [Act.put, List.setIfInBounds_toArray, List.set]
  go_wp2
  refine bodyPost_ret (results_ct2_slot (p := 2) (p' := 3) (q := 4) (by rfl) _ _ (N + 1) (N + 1 + 1) 102 102 (NB r) (NB y) 32 32 _ _ (.bool true) (by rfl) HX1.out (NB_rw r) (by rfl) HX2.out (NB_rw y) Tryd.underlying102 rfl (by kernel_rfl) Tryd.underlying102 rfl (by kernel_rfl) rfl) rfl ⟨by first | rfl | (rfl), by rw [HN.out]; exact HB.out⟩
theorem XY_ok (p : Pt) (w : World) : Calls Tryd.prog 56 #[.agg (PB (pN p))] w fun e w' => e = .returned (.tuple #[.agg (NB p.x), .agg (NB p.y), .bool true]) ∧ Below w.heap.size w w' := by
  have hf := frt_of p
  by_cases ho : p.x.val % 2 = 1
  · rw [if_pos ho] at hf
    have h := XY_d (pN p) p.y.val true (pN_lt p) (pN_low p) ((pN_top p).trans (decide_eq_true ho)) p.y rfl (fis_of p) rfl (decide_eq_false (fun h => odd_ne ho (neg_eq0 (hf ▸ h)))) w
    rw [hf, neg_neg'] at h
    exact h
  · rw [if_neg ho] at hf
    have h := XY_e (pN p) p.y.val false (pN_lt p) (pN_low p) ((pN_top p).trans (decide_eq_false ho)) p.y rfl (fis_of p) rfl w
    rw [hf] at h
    exact h
theorem pN_d {n : Nat} {y : Fp} (hn : n < 115792089237316195423570985008687907853269984665640564039457584007913129639936) (hy : y.val = n % 57896044618658097711785492504343953926634992332820282019728792003956564819968) (ho : 57896044618658097711785492504343953926634992332820282019728792003956564819968 ≤ n) (hf : fis (sqx y) = true) (hz : frt (sqx y) ≠ 0) : ∃ p : Pt, pN p = n := by
  obtain ⟨p, hx, hpy⟩ := pt_neg hf
  refine ⟨p, ?_⟩
  have h1 := frt_even (sqx y)
  have h2 := neg_par hz
  unfold pN encXY
  rw [hx, hpy, hy, h2]; omega
theorem pN_e {n : Nat} {y : Fp} (hy : y.val = n % 57896044618658097711785492504343953926634992332820282019728792003956564819968) (ho : ¬ 57896044618658097711785492504343953926634992332820282019728792003956564819968 ≤ n) (hf : fis (sqx y) = true) : ∃ p : Pt, pN p = n := by
  obtain ⟨p, hx, hpy⟩ := pt_of hf
  refine ⟨p, ?_⟩
  have h1 := frt_even (sqx y)
  unfold pN encXY
  rw [hx, hpy, hy, h1]; omega
theorem XY_no (n : Nat) (hn : n < 115792089237316195423570985008687907853269984665640564039457584007913129639936) (h : ∀ p : Pt, pN p ≠ n) (w : World) : Calls Tryd.prog 56 #[.agg (PB n)] w fun e w' => e = .returned (.tuple #[.agg (NB 0), .agg (NB 0), .bool false]) ∧ Below w.heap.size w w' := by
  by_cases hg : n % 57896044618658097711785492504343953926634992332820282019728792003956564819968 < PP
  · obtain ⟨y, hy⟩ : ∃ y : Fp, y.val = n % 57896044618658097711785492504343953926634992332820282019728792003956564819968 := ⟨⟨_, hg⟩, rfl⟩
    cases hf : fis (sqx y) with
    | false => exact XY_b n _ _ hn rfl rfl y hy hf w
    | true =>
      by_cases ho : 57896044618658097711785492504343953926634992332820282019728792003956564819968 ≤ n
      · by_cases hz : frt (sqx y) = 0
        · exact XY_c n _ true hn rfl (decide_eq_true ho) y hy hf rfl (decide_eq_true hz) w
        · obtain ⟨p, hp⟩ := pN_d hn hy ho hf hz
          exact (h p hp).elim
      · obtain ⟨p, hp⟩ := pN_e hy ho hf
        exact (h p hp).elim
  · exact XY_a n _ _ hn rfl rfl hg w
end Go.Proofs.YtlpchgoaoglhcaaDoor
