/-
  What the exported functions tell, on both sides.
  Conditions: none.
-/
import Derived.Test.YtfmclkmmkceldaaCvU
namespace Go.Proofs.Ytfmclkmmkceldaa
open Go.RowKit

set_option linter.unusedSimpArgs false
set_option linter.unusedVariables false
theorem eq_finv {x q z : Fp} (h : z ≠ 0) (e : x = q * z) : x * finv z = q := by
  have := finv_mul h
  grind
theorem rep_point {x y z t : Fp} {p : Pt} (h : Rep x y z t p) : encXY (x * finv z) (y * finv z) = pN p := by
  rw [eq_finv h.z0 h.hx, eq_finv h.z0 h.hy]; rfl
theorem repQ_point {q : Fq} {p : Pt} (h : RepQ q p) : encXY (q.1 * finv q.2.2.1) (q.2.1 * finv q.2.2.1) = pN p := rep_point h
theorem addP_rep {x y z t x' y' z' t' : Fp} {p q : Pt} (h : Rep x y z t p) (h' : Rep x' y' z' t' q) : Rep ((((y + x) * (y' + x')) - ((y - x) * (y' - x'))) * ((z * z' + z * z') - (cD * (t * t') + cD * (t * t')))) ((((y + x) * (y' + x')) + ((y - x) * (y' - x'))) * ((z * z' + z * z') + (cD * (t * t') + cD * (t * t')))) (((z * z' + z * z') + (cD * (t * t') + cD * (t * t'))) * ((z * z' + z * z') - (cD * (t * t') + cD * (t * t')))) ((((y + x) * (y' + x')) - ((y - x) * (y' - x'))) * (((y + x) * (y' + x')) + ((y - x) * (y' - x')))) (padd p q) := Rep.sum h h'
theorem sumP_rep {x y z t x' y' z' t' : Fp} {p q : Pt} (h : Rep x y z t p) (h' : Rep x' y' z' t' q) : Rep ((((y + x) * (y' + x')) - ((y - x) * (y' - x'))) * ((z * z' + z * z') - (((t * t') + (t * t')) * cD))) (((z * z' + z * z') + (((t * t') + (t * t')) * cD)) * (((y + x) * (y' + x')) + ((y - x) * (y' - x')))) (((z * z' + z * z') - (((t * t') + (t * t')) * cD)) * ((z * z' + z * z') + (((t * t') + (t * t')) * cD))) ((((y + x) * (y' + x')) - ((y - x) * (y' - x'))) * (((y + x) * (y' + x')) + ((y - x) * (y' - x')))) (padd p q) := sumQ_rep (a := (x, y, z, t)) (b := (x', y', z', t')) h h'
theorem flatQ (p : Pt) : RepQ (p.x, p.y, 1, p.x * p.y) p := rep_flat p
set_option maxRecDepth 100000 in
set_option maxHeartbeats 1000000 in
theorem read_ok (p : Pt) (w : World) :
    Calls Try.prog 64 #[.agg (PB (pN p))] w fun e w' => e = .returned (.tuple #[.agg (FR p.x p.y 1 (p.x * p.y)), .bool true]) ∧ Below w.heap.size w w' := by
  have HQ1 := Lib.hid (fun w => XY_ok p w)
  obtain ⟨c2, hc2⟩ : ∃ zq : Fp, zq = p.x * p.y := ⟨_, rfl⟩
  have HE2 := Lib.hid hc2
  clear hc2
  have HQ3 := Lib.hid (fun w => IsN.mul (isN_NB p.x) (isN_NB p.y) w)
  rw [← HE2.out] at HQ3
  have hz0 := zFr
  have hz1 := zNu
  go_enter Try.func64, Try.ntmps64
  go_upto_region 1 with fail
  generalize hW1 : World.alloc _ _ = W1
  obtain ⟨N, hN⟩ : ∃ n, w.heap.size = n := ⟨_, rfl⟩
  have HX0 := Lib.hid (show CT W1 N 24 (PB (pN p)) by subst hW1; rw [← hN]; exact (allocs2_at w _ _).1)
  have HX1 := Lib.hid (show CT W1 (N + 1) 76 (FR 0 0 0 0) by subst hW1; rw [← hN]; exact (allocs2_at w _ _).2)
  have HB := Lib.hid (show Below N w W1 by subst hW1; rw [← hN]; exact allocs2_below w _ _)
  have HN := Lib.hid hN
  rw [hN]
  clear hW1 hN
  refine wp_region_seq 6 ?_
  simp only [List.take_succ_cons, List.take_zero, List.drop_succ_cons, List.drop_zero]
  refine upW_val (by rfl) (by rfl) (by rfl) (fun K hK => quiet_load_ct _ _ rfl N rfl 24 (PB (pN p)) 32 (PB_rw (pN p)) _ HX0.out Try.underlying24 rfl (by kernel_rfl) (hK _ ?_))
  simp only [Act.put, List.setIfInBounds_toArray, List.set]
  refine upW_call (by rfl) (by rfl) (.tuple #[.agg (NB p.x), .agg (NB p.y), .bool true]) _ rfl (by simp) (fun p => ?_) ?_
  · go_big_quiet_op
    exact ⟨_, fun q => Calls.ext_of (HQ1.out q.x), rfl⟩
  simp only [Act.put, List.setIfInBounds_toArray, List.set]
  refine upW_val (by rfl) (by rfl) (by rfl) ?_
  intro K hK
  go_big_quiet_op
  refine hK _ ?_
  refine upW_late (by rfl) (.agg (NB p.x)) (fun _ => rfl) ?_
  simp only [Act.put, List.setIfInBounds_toArray, List.set]
  refine upW_late (by rfl) (.agg (NB p.y)) (fun _ => rfl) ?_
  simp only [Act.put, List.setIfInBounds_toArray, List.set]
  refine upW_late (by rfl) (.bool true) (fun _ => rfl) ?_
  simp only [Act.put, List.setIfInBounds_toArray, List.set]
  refine upW_nil (fun wr1 hbr1 => ?_)
  replace HX0 := Lib.hid (HX0.out.ext hbr1)
  replace HX1 := Lib.hid (HX1.out.ext hbr1)
  replace HB := Lib.hid (HB.out.trans (hbr1.mono (show N ≤ _ by have := HB.out.size; have := HN.out; omega)))
  clear hbr1
  refine wpList_new2 rfl rfl 26 rfl rfl (NB 0) zNu rfl rfl _ _ _ _ rfl rfl (NB p.x) (NB p.y) 32 (NB_rw p.x) (NB_rw p.y) (NB_rw 0).size (by kernel_rfl) rfl rfl rfl rfl rfl rfl (fun B2a B2b wr2 hB2a hB2b hbr2 hCB2a hCB2b => ?_)
  have HB2a := Lib.hid hCB2a
  have HB2b := Lib.hid hCB2b
  have hlB2aX0 : N < B2a := by rw [← hB2a]; exact HX0.out.lt
  have hlB2bX0 : N < B2b := by omega
  have hlB2aX1 : (N + 1) < B2a := by rw [← hB2a]; exact HX1.out.lt
  have hlB2bX1 : (N + 1) < B2b := by omega
  have hNB2a : N ≤ B2a := by rw [← hB2a]; have := HB.out.size; have := HN.out; omega
  have hNB2b : N ≤ B2b := by omega
  clear hB2a hCB2a hCB2b
  simp only [Act.put, List.setIfInBounds_toArray, List.set]
  replace HX0 := Lib.hid (HX0.out.ext hbr2)
  replace HX1 := Lib.hid (HX1.out.ext hbr2)
  replace HB := Lib.hid (HB.out.trans (hbr2.mono (show N ≤ _ by have := HB.out.size; have := HN.out; omega)))
  clear hbr2
  go_upto_region 4 with fail
  refine wp_region_upT 7 _ (by kernel_rfl) (by kernel_rfl) rfl (by kernel_rfl) (fun _ _ dst _ _ h => by cases dst <;> exact h) ?_
  simp only [List.take_succ_cons, List.take_zero, List.drop_succ_cons, List.drop_zero]
  refine upW_val (by rfl) (by rfl) (by rfl) (fun K hK => quiet_load_ct _ _ rfl B2a rfl 26 (NB p.x) 32 (NB_rw p.x) _ HB2a.out Try.underlying26 rfl (by kernel_rfl) (hK _ ?_))
  simp only [Act.put, List.setIfInBounds_toArray, List.set]
  refine upW_val (by rfl) (by rfl) (by rfl) (fun K hK => quiet_load_ct _ _ rfl B2b rfl 26 (NB p.y) 32 (NB_rw p.y) _ HB2b.out Try.underlying26 rfl (by kernel_rfl) (hK _ ?_))
  simp only [Act.put, List.setIfInBounds_toArray, List.set]
  refine upW_call (by rfl) (by rfl) (.agg (NB 1)) _ rfl (by simp) (fun p => ?_) ?_
  · go_big_quiet_op
    exact ⟨_, fun q => Calls.ext_of (Of_one q.x), rfl⟩
  simp only [Act.put, List.setIfInBounds_toArray, List.set]
  refine upW_val (by rfl) (by rfl) (by rfl) (fun K hK => quiet_load_ct _ _ rfl B2a rfl 26 (NB p.x) 32 (NB_rw p.x) _ HB2a.out Try.underlying26 rfl (by kernel_rfl) (hK _ ?_))
  simp only [Act.put, List.setIfInBounds_toArray, List.set]
  refine upW_val (by rfl) (by rfl) (by rfl) (fun K hK => quiet_load_ct _ _ rfl B2b rfl 26 (NB p.y) 32 (NB_rw p.y) _ HB2b.out Try.underlying26 rfl (by kernel_rfl) (hK _ ?_))
  simp only [Act.put, List.setIfInBounds_toArray, List.set]
  refine upW_call (by rfl) (by rfl) (.agg (NB c2)) _ rfl (by simp) (fun p => ?_) ?_
  · go_big_quiet_op
    exact ⟨_, fun q => Calls.ext_of (HQ3.out q.x), rfl⟩
  simp only [Act.put, List.setIfInBounds_toArray, List.set]
  refine upW_late (by rfl) (.agg (FR p.x p.y 1 c2)) (fun w => run_made_F _ _ _ _ _ _ rfl p.x p.y 1 c2 rfl rfl rfl rfl w) ?_
  simp only [Act.put, List.setIfInBounds_toArray, List.set]
  refine upW_nil (fun wr3 hbr3 => ?_)
  replace HX0 := Lib.hid (HX0.out.ext hbr3)
  replace HX1 := Lib.hid (HX1.out.ext hbr3)
  replace HB2a := Lib.hid (HB2a.out.ext hbr3)
  replace HB2b := Lib.hid (HB2b.out.ext hbr3)
  replace HB := Lib.hid (HB.out.trans (hbr3.mono (show N ≤ _ by have := HB.out.size; have := HN.out; omega)))
  clear hbr3
  refine wpList_store_ct rfl 76 _ _ rfl (N + 1) (FR p.x p.y 1 c2) rfl rfl 76 (FR 0 0 0 0) 128 HX1.out (by kernel_rfl) (FR_rw 0 0 0 0) (FR_rw p.x p.y 1 c2) rfl (fun wr4 hSwr4 hOwr4 hWwr4 => ?_)
  replace HX1 := Lib.hid hSwr4
  replace HB := Lib.hid (hWwr4 _ _ HB.out (by omega))
  replace HX0 := Lib.hid (HX0.out.other (hOwr4 _ (by omega)))
  replace HB2a := Lib.hid (HB2a.out.other (hOwr4 _ (by omega)))
  replace HB2b := Lib.hid (HB2b.out.other (hOwr4 _ (by omega)))
  clear hSwr4 hOwr4 hWwr4
  go_wp2
  refine bodyPost_ret (results_ct_slot (p := 2) (q := 3) (by rfl) _ _ (N + 1) 76 (FR p.x p.y 1 c2) 128 _ (.bool true) (by rfl) HX1.out (FR_rw p.x p.y 1 c2) Try.underlying76 rfl (by kernel_rfl) rfl) rfl ⟨by first | rfl | (simp only [HE2.out]), by rw [HN.out]; exact HB.out⟩
set_option maxRecDepth 100000 in
set_option maxHeartbeats 1000000 in
theorem read_no (n : Nat) (hn : n < 115792089237316195423570985008687907853269984665640564039457584007913129639936) (gn : ∀ p : Pt, pN p ≠ n) (w : World) :
    Calls Try.prog 64 #[.agg (PB n)] w fun e w' => e = .returned (.tuple #[.agg (FR 0 0 0 0), .bool false]) ∧ Below w.heap.size w w' := by
  have HLn := Lib.hid hn
  have HNn := Lib.hid gn
  clear hn gn
  have HQ1 := Lib.hid (fun w => XY_no n HLn.out HNn.out w)
  have hz0 := zFr
  have hz1 := zNu
  go_enter Try.func64, Try.ntmps64
  go_upto_region 1 with fail
  generalize hW1 : World.alloc _ _ = W1
  obtain ⟨N, hN⟩ : ∃ n, w.heap.size = n := ⟨_, rfl⟩
  have HX0 := Lib.hid (show CT W1 N 24 (PB n) by subst hW1; rw [← hN]; exact (allocs2_at w _ _).1)
  have HX1 := Lib.hid (show CT W1 (N + 1) 76 (FR 0 0 0 0) by subst hW1; rw [← hN]; exact (allocs2_at w _ _).2)
  have HB := Lib.hid (show Below N w W1 by subst hW1; rw [← hN]; exact allocs2_below w _ _)
  have HN := Lib.hid hN
  rw [hN]
  clear hW1 hN
  refine wp_region_seq 6 ?_
  simp only [List.take_succ_cons, List.take_zero, List.drop_succ_cons, List.drop_zero]
  refine upW_val (by rfl) (by rfl) (by rfl) (fun K hK => quiet_load_ct _ _ rfl N rfl 24 (PB n) 32 (PB_rw n) _ HX0.out Try.underlying24 rfl (by kernel_rfl) (hK _ ?_))
  simp only [Act.put, List.setIfInBounds_toArray, List.set]
  refine upW_call (by rfl) (by rfl) (.tuple #[.agg (NB 0), .agg (NB 0), .bool false]) _ rfl (by simp) (fun p => ?_) ?_
  · go_big_quiet_op
    exact ⟨_, fun q => Calls.ext_of (HQ1.out q.x), rfl⟩
  simp only [Act.put, List.setIfInBounds_toArray, List.set]
  refine upW_val (by rfl) (by rfl) (by rfl) ?_
  intro K hK
  go_big_quiet_op
  refine hK _ ?_
  refine upW_late (by rfl) (.agg (NB 0)) (fun _ => rfl) ?_
  simp only [Act.put, List.setIfInBounds_toArray, List.set]
  refine upW_late (by rfl) (.agg (NB 0)) (fun _ => rfl) ?_
  simp only [Act.put, List.setIfInBounds_toArray, List.set]
  refine upW_late (by rfl) (.bool false) (fun _ => rfl) ?_
  simp only [Act.put, List.setIfInBounds_toArray, List.set]
  refine upW_nil (fun wr1 hbr1 => ?_)
  replace HX0 := Lib.hid (HX0.out.ext hbr1)
  replace HX1 := Lib.hid (HX1.out.ext hbr1)
  replace HB := Lib.hid (HB.out.trans (hbr1.mono (show N ≤ _ by have := HB.out.size; have := HN.out; omega)))
  clear hbr1
  refine wpList_new2 rfl rfl 26 rfl rfl (NB 0) zNu rfl rfl _ _ _ _ rfl rfl (NB 0) (NB 0) 32 (NB_rw 0) (NB_rw 0) (NB_rw 0).size (by kernel_rfl) rfl rfl rfl rfl rfl rfl (fun B2a B2b wr2 hB2a hB2b hbr2 hCB2a hCB2b => ?_)
  have HB2a := Lib.hid hCB2a
  have HB2b := Lib.hid hCB2b
  have hlB2aX0 : N < B2a := by rw [← hB2a]; exact HX0.out.lt
  have hlB2bX0 : N < B2b := by omega
  have hlB2aX1 : (N + 1) < B2a := by rw [← hB2a]; exact HX1.out.lt
  have hlB2bX1 : (N + 1) < B2b := by omega
  have hNB2a : N ≤ B2a := by rw [← hB2a]; have := HB.out.size; have := HN.out; omega
  have hNB2b : N ≤ B2b := by omega
  clear hB2a hCB2a hCB2b
  simp only [Act.put, List.setIfInBounds_toArray, List.set]
  replace HX0 := Lib.hid (HX0.out.ext hbr2)
  replace HX1 := Lib.hid (HX1.out.ext hbr2)
  replace HB := Lib.hid (HB.out.trans (hbr2.mono (show N ≤ _ by have := HB.out.size; have := HN.out; omega)))
  clear hbr2
  go_upto_region 3 with fail
  refine wp_region_seq 1 ?_
  simp only [List.take_succ_cons, List.take_zero, List.drop_succ_cons, List.drop_zero]
  refine upW_late (by rfl) (.agg (FR 0 0 0 0)) (fun w => run_built _ _ _ _ rfl _ (by kernel_rfl) w) ?_
  simp only [Act.put, List.setIfInBounds_toArray, List.set]
  refine upW_nil (fun wr3 hbr3 => ?_)
  replace HX0 := Lib.hid (HX0.out.ext hbr3)
  replace HX1 := Lib.hid (HX1.out.ext hbr3)
  replace HB2a := Lib.hid (HB2a.out.ext hbr3)
  replace HB2b := Lib.hid (HB2b.out.ext hbr3)
  replace HB := Lib.hid (HB.out.trans (hbr3.mono (show N ≤ _ by have := HB.out.size; have := HN.out; omega)))
  clear hbr3
  refine wpList_store_ct rfl 76 _ _ rfl (N + 1) (FR 0 0 0 0) rfl rfl 76 (FR 0 0 0 0) 128 HX1.out (by kernel_rfl) (FR_rw 0 0 0 0) (FR_rw 0 0 0 0) rfl (fun wr4 hSwr4 hOwr4 hWwr4 => ?_)
  replace HX1 := Lib.hid hSwr4
  replace HB := Lib.hid (hWwr4 _ _ HB.out (by omega))
  replace HX0 := Lib.hid (HX0.out.other (hOwr4 _ (by omega)))
  replace HB2a := Lib.hid (HB2a.out.other (hOwr4 _ (by omega)))
  replace HB2b := Lib.hid (HB2b.out.other (hOwr4 _ (by omega)))
  clear hSwr4 hOwr4 hWwr4
  go_wp2
  refine bodyPost_ret (results_ct_slot (p := 2) (q := 3) (by rfl) _ _ (N + 1) 76 (FR 0 0 0 0) 128 _ (.bool false) (by rfl) HX1.out (FR_rw 0 0 0 0) Try.underlying76 rfl (by kernel_rfl) rfl) rfl ⟨by first | rfl | (rfl), by rw [HN.out]; exact HB.out⟩
set_option maxRecDepth 100000 in
set_option maxHeartbeats 1000000 in
theorem Good_ok (p : Pt) (w : World) :
    Calls Try.prog 23 #[.agg (PB (pN p))] w fun e w' => e = .returned (.bool true) ∧ Below w.heap.size w w' := by
  have HQ1 := Lib.hid (fun w => XY_ok p w)
  have hz0 := zNu
  go_enter Try.func23, Try.ntmps23
  go_upto_region 1 with fail
  generalize hW1 : World.alloc _ _ = W1
  obtain ⟨N, hN⟩ : ∃ n, w.heap.size = n := ⟨_, rfl⟩
  have HX0 := Lib.hid (show CT W1 N 24 (PB (pN p)) by subst hW1; rw [← hN]; exact (allocs1_at w _))
  have HB := Lib.hid (show Below N w W1 by subst hW1; rw [← hN]; exact allocs1_below w _)
  have HN := Lib.hid hN
  rw [hN]
  clear hW1 hN
  refine wp_region_seq 6 ?_
  simp only [List.take_succ_cons, List.take_zero, List.drop_succ_cons, List.drop_zero]
  refine upW_val (by rfl) (by rfl) (by rfl) (fun K hK => quiet_load_ct _ _ rfl N rfl 24 (PB (pN p)) 32 (PB_rw (pN p)) _ HX0.out Try.underlying24 rfl (by kernel_rfl) (hK _ ?_))
  simp only [Act.put, List.setIfInBounds_toArray, List.set]
  refine upW_call (by rfl) (by rfl) (.tuple #[.agg (NB p.x), .agg (NB p.y), .bool true]) _ rfl (by simp) (fun p => ?_) ?_
  · go_big_quiet_op
    exact ⟨_, fun q => Calls.ext_of (HQ1.out q.x), rfl⟩
  simp only [Act.put, List.setIfInBounds_toArray, List.set]
  refine upW_val (by rfl) (by rfl) (by rfl) ?_
  intro K hK
  go_big_quiet_op
  refine hK _ ?_
  refine upW_late (by rfl) (.agg (NB p.x)) (fun _ => rfl) ?_
  simp only [Act.put, List.setIfInBounds_toArray, List.set]
  refine upW_late (by rfl) (.agg (NB p.y)) (fun _ => rfl) ?_
  simp only [Act.put, List.setIfInBounds_toArray, List.set]
  refine upW_late (by rfl) (.bool true) (fun _ => rfl) ?_
  simp only [Act.put, List.setIfInBounds_toArray, List.set]
  refine upW_nil (fun wr1 hbr1 => ?_)
  replace HX0 := Lib.hid (HX0.out.ext hbr1)
  replace HB := Lib.hid (HB.out.trans (hbr1.mono (show N ≤ _ by have := HB.out.size; have := HN.out; omega)))
  clear hbr1
  refine wpList_new2 rfl rfl 26 rfl rfl (NB 0) zNu rfl rfl _ _ _ _ rfl rfl (NB p.x) (NB p.y) 32 (NB_rw p.x) (NB_rw p.y) (NB_rw 0).size (by kernel_rfl) rfl rfl rfl rfl rfl rfl (fun B2a B2b wr2 hB2a hB2b hbr2 hCB2a hCB2b => ?_)
  have HB2a := Lib.hid hCB2a
  have HB2b := Lib.hid hCB2b
  have hlB2aX0 : N < B2a := by rw [← hB2a]; exact HX0.out.lt
  have hlB2bX0 : N < B2b := by omega
  have hNB2a : N ≤ B2a := by rw [← hB2a]; have := HB.out.size; have := HN.out; omega
  have hNB2b : N ≤ B2b := by omega
  clear hB2a hCB2a hCB2b
  simp only [Act.put, List.setIfInBounds_toArray, List.set]
  replace HX0 := Lib.hid (HX0.out.ext hbr2)
  replace HB := Lib.hid (HB.out.trans (hbr2.mono (show N ≤ _ by have := HB.out.size; have := HN.out; omega)))
  clear hbr2
  go_wp2
  go_ret
  exact ⟨by first | rfl | (rfl), by rw [HN.out]; exact HB.out⟩
set_option maxRecDepth 100000 in
set_option maxHeartbeats 1000000 in
theorem Good_no (n : Nat) (hn : n < 115792089237316195423570985008687907853269984665640564039457584007913129639936) (gn : ∀ p : Pt, pN p ≠ n) (w : World) :
    Calls Try.prog 23 #[.agg (PB n)] w fun e w' => e = .returned (.bool false) ∧ Below w.heap.size w w' := by
  have HLn := Lib.hid hn
  have HNn := Lib.hid gn
  clear hn gn
  have HQ1 := Lib.hid (fun w => XY_no n HLn.out HNn.out w)
  have hz0 := zNu
  go_enter Try.func23, Try.ntmps23
  go_upto_region 1 with fail
  generalize hW1 : World.alloc _ _ = W1
  obtain ⟨N, hN⟩ : ∃ n, w.heap.size = n := ⟨_, rfl⟩
  have HX0 := Lib.hid (show CT W1 N 24 (PB n) by subst hW1; rw [← hN]; exact (allocs1_at w _))
  have HB := Lib.hid (show Below N w W1 by subst hW1; rw [← hN]; exact allocs1_below w _)
  have HN := Lib.hid hN
  rw [hN]
  clear hW1 hN
  refine wp_region_seq 6 ?_
  simp only [List.take_succ_cons, List.take_zero, List.drop_succ_cons, List.drop_zero]
  refine upW_val (by rfl) (by rfl) (by rfl) (fun K hK => quiet_load_ct _ _ rfl N rfl 24 (PB n) 32 (PB_rw n) _ HX0.out Try.underlying24 rfl (by kernel_rfl) (hK _ ?_))
  simp only [Act.put, List.setIfInBounds_toArray, List.set]
  refine upW_call (by rfl) (by rfl) (.tuple #[.agg (NB 0), .agg (NB 0), .bool false]) _ rfl (by simp) (fun p => ?_) ?_
  · go_big_quiet_op
    exact ⟨_, fun q => Calls.ext_of (HQ1.out q.x), rfl⟩
  simp only [Act.put, List.setIfInBounds_toArray, List.set]
  refine upW_val (by rfl) (by rfl) (by rfl) ?_
  intro K hK
  go_big_quiet_op
  refine hK _ ?_
  refine upW_late (by rfl) (.agg (NB 0)) (fun _ => rfl) ?_
  simp only [Act.put, List.setIfInBounds_toArray, List.set]
  refine upW_late (by rfl) (.agg (NB 0)) (fun _ => rfl) ?_
  simp only [Act.put, List.setIfInBounds_toArray, List.set]
  refine upW_late (by rfl) (.bool false) (fun _ => rfl) ?_
  simp only [Act.put, List.setIfInBounds_toArray, List.set]
  refine upW_nil (fun wr1 hbr1 => ?_)
  replace HX0 := Lib.hid (HX0.out.ext hbr1)
  replace HB := Lib.hid (HB.out.trans (hbr1.mono (show N ≤ _ by have := HB.out.size; have := HN.out; omega)))
  clear hbr1
  refine wpList_new2 rfl rfl 26 rfl rfl (NB 0) zNu rfl rfl _ _ _ _ rfl rfl (NB 0) (NB 0) 32 (NB_rw 0) (NB_rw 0) (NB_rw 0).size (by kernel_rfl) rfl rfl rfl rfl rfl rfl (fun B2a B2b wr2 hB2a hB2b hbr2 hCB2a hCB2b => ?_)
  have HB2a := Lib.hid hCB2a
  have HB2b := Lib.hid hCB2b
  have hlB2aX0 : N < B2a := by rw [← hB2a]; exact HX0.out.lt
  have hlB2bX0 : N < B2b := by omega
  have hNB2a : N ≤ B2a := by rw [← hB2a]; have := HB.out.size; have := HN.out; omega
  have hNB2b : N ≤ B2b := by omega
  clear hB2a hCB2a hCB2b
  simp only [Act.put, List.setIfInBounds_toArray, List.set]
  replace HX0 := Lib.hid (HX0.out.ext hbr2)
  replace HB := Lib.hid (HB.out.trans (hbr2.mono (show N ≤ _ by have := HB.out.size; have := HN.out; omega)))
  clear hbr2
  go_wp2
  go_ret
  exact ⟨by first | rfl | (rfl), by rw [HN.out]; exact HB.out⟩
set_option maxRecDepth 100000 in
set_option maxHeartbeats 1000000 in
theorem Neg_ok (p : Pt) (w : World) :
    Calls Try.prog 16 #[.agg (PB (pN p))] w fun e w' => e = .returned (.tuple #[.agg (PB (pN (pneg p))), .bool true]) ∧ Below w.heap.size w w' := by
  have HQ1 := Lib.hid (fun w => XY_ok p w)
  obtain ⟨c2, hc2⟩ : ∃ zq : Fp, zq = -p.x := ⟨_, rfl⟩
  have HE2 := Lib.hid hc2
  clear hc2
  have HQ3 := Lib.hid (fun w => IsN.neg (isN_NB p.x) w)
  rw [← HE2.out] at HQ3
  have HQ4 := Lib.hid (fun w => encode_any (isN_NB c2) (isN_NB p.y) w)
  have hz0 := zPt
  have hz1 := zNu
  go_enter Try.func16, Try.ntmps16
  go_upto_region 1 with fail
  generalize hW1 : World.alloc _ _ = W1
  obtain ⟨N, hN⟩ : ∃ n, w.heap.size = n := ⟨_, rfl⟩
  have HX0 := Lib.hid (show CT W1 N 24 (PB (pN p)) by subst hW1; rw [← hN]; exact (allocs2_at w _ _).1)
  have HX1 := Lib.hid (show CT W1 (N + 1) 24 (PB 0) by subst hW1; rw [← hN]; exact (allocs2_at w _ _).2)
  have HB := Lib.hid (show Below N w W1 by subst hW1; rw [← hN]; exact allocs2_below w _ _)
  have HN := Lib.hid hN
  rw [hN]
  clear hW1 hN
  refine wp_region_seq 6 ?_
  simp only [List.take_succ_cons, List.take_zero, List.drop_succ_cons, List.drop_zero]
  refine upW_val (by rfl) (by rfl) (by rfl) (fun K hK => quiet_load_ct _ _ rfl N rfl 24 (PB (pN p)) 32 (PB_rw (pN p)) _ HX0.out Try.underlying24 rfl (by kernel_rfl) (hK _ ?_))
  simp only [Act.put, List.setIfInBounds_toArray, List.set]
  refine upW_call (by rfl) (by rfl) (.tuple #[.agg (NB p.x), .agg (NB p.y), .bool true]) _ rfl (by simp) (fun p => ?_) ?_
  · go_big_quiet_op
    exact ⟨_, fun q => Calls.ext_of (HQ1.out q.x), rfl⟩
  simp only [Act.put, List.setIfInBounds_toArray, List.set]
  refine upW_val (by rfl) (by rfl) (by rfl) ?_
  intro K hK
  go_big_quiet_op
  refine hK _ ?_
  refine upW_late (by rfl) (.agg (NB p.x)) (fun _ => rfl) ?_
  simp only [Act.put, List.setIfInBounds_toArray, List.set]
  refine upW_late (by rfl) (.agg (NB p.y)) (fun _ => rfl) ?_
  simp only [Act.put, List.setIfInBounds_toArray, List.set]
  refine upW_late (by rfl) (.bool true) (fun _ => rfl) ?_
  simp only [Act.put, List.setIfInBounds_toArray, List.set]
  refine upW_nil (fun wr1 hbr1 => ?_)
  replace HX0 := Lib.hid (HX0.out.ext hbr1)
  replace HX1 := Lib.hid (HX1.out.ext hbr1)
  replace HB := Lib.hid (HB.out.trans (hbr1.mono (show N ≤ _ by have := HB.out.size; have := HN.out; omega)))
  clear hbr1
  refine wpList_new2 rfl rfl 26 rfl rfl (NB 0) zNu rfl rfl _ _ _ _ rfl rfl (NB p.x) (NB p.y) 32 (NB_rw p.x) (NB_rw p.y) (NB_rw 0).size (by kernel_rfl) rfl rfl rfl rfl rfl rfl (fun B2a B2b wr2 hB2a hB2b hbr2 hCB2a hCB2b => ?_)
  have HB2a := Lib.hid hCB2a
  have HB2b := Lib.hid hCB2b
  have hlB2aX0 : N < B2a := by rw [← hB2a]; exact HX0.out.lt
  have hlB2bX0 : N < B2b := by omega
  have hlB2aX1 : (N + 1) < B2a := by rw [← hB2a]; exact HX1.out.lt
  have hlB2bX1 : (N + 1) < B2b := by omega
  have hNB2a : N ≤ B2a := by rw [← hB2a]; have := HB.out.size; have := HN.out; omega
  have hNB2b : N ≤ B2b := by omega
  clear hB2a hCB2a hCB2b
  simp only [Act.put, List.setIfInBounds_toArray, List.set]
  replace HX0 := Lib.hid (HX0.out.ext hbr2)
  replace HX1 := Lib.hid (HX1.out.ext hbr2)
  replace HB := Lib.hid (HB.out.trans (hbr2.mono (show N ≤ _ by have := HB.out.size; have := HN.out; omega)))
  clear hbr2
  go_upto_region 4 with fail
  refine wp_region_upT 4 _ (by kernel_rfl) (by kernel_rfl) rfl (by kernel_rfl) (fun _ _ dst _ _ h => by cases dst <;> exact h) ?_
  simp only [List.take_succ_cons, List.take_zero, List.drop_succ_cons, List.drop_zero]
  refine upW_val (by rfl) (by rfl) (by rfl) (fun K hK => quiet_load_ct _ _ rfl B2a rfl 26 (NB p.x) 32 (NB_rw p.x) _ HB2a.out Try.underlying26 rfl (by kernel_rfl) (hK _ ?_))
  simp only [Act.put, List.setIfInBounds_toArray, List.set]
  refine upW_call (by rfl) (by rfl) (.agg (NB c2)) _ rfl (by simp) (fun p => ?_) ?_
  · go_big_quiet_op
    exact ⟨_, fun q => Calls.ext_of (HQ3.out q.x), rfl⟩
  simp only [Act.put, List.setIfInBounds_toArray, List.set]
  refine upW_val (by rfl) (by rfl) (by rfl) (fun K hK => quiet_load_ct _ _ rfl B2b rfl 26 (NB p.y) 32 (NB_rw p.y) _ HB2b.out Try.underlying26 rfl (by kernel_rfl) (hK _ ?_))
  simp only [Act.put, List.setIfInBounds_toArray, List.set]
  refine upW_call (by rfl) (by rfl) (.agg (PB (encXY c2 p.y))) _ rfl (by simp) (fun p => ?_) ?_
  · go_big_quiet_op
    exact ⟨_, fun q => Calls.ext_of (HQ4.out q.x), rfl⟩
  simp only [Act.put, List.setIfInBounds_toArray, List.set]
  refine upW_nil (fun wr3 hbr3 => ?_)
  replace HX0 := Lib.hid (HX0.out.ext hbr3)
  replace HX1 := Lib.hid (HX1.out.ext hbr3)
  replace HB2a := Lib.hid (HB2a.out.ext hbr3)
  replace HB2b := Lib.hid (HB2b.out.ext hbr3)
  replace HB := Lib.hid (HB.out.trans (hbr3.mono (show N ≤ _ by have := HB.out.size; have := HN.out; omega)))
  clear hbr3
  refine wpList_store_ct rfl 24 _ _ rfl (N + 1) (PB (encXY c2 p.y)) rfl rfl 24 (PB 0) 32 HX1.out (by kernel_rfl) (PB_rw 0) (PB_rw (encXY c2 p.y)) rfl (fun wr4 hSwr4 hOwr4 hWwr4 => ?_)
  replace HX1 := Lib.hid hSwr4
  replace HB := Lib.hid (hWwr4 _ _ HB.out (by omega))
  replace HX0 := Lib.hid (HX0.out.other (hOwr4 _ (by omega)))
  replace HB2a := Lib.hid (HB2a.out.other (hOwr4 _ (by omega)))
  replace HB2b := Lib.hid (HB2b.out.other (hOwr4 _ (by omega)))
  clear hSwr4 hOwr4 hWwr4
  go_wp2
  refine bodyPost_ret (results_ct_slot (p := 2) (q := 3) (by rfl) _ _ (N + 1) 24 (PB (encXY c2 p.y)) 32 _ (.bool true) (by rfl) HX1.out (PB_rw (encXY c2 p.y)) Try.underlying24 rfl (by kernel_rfl) rfl) rfl ⟨congrArg (fun k => Ending.returned (.tuple #[.agg (PB k), .bool true])) (by simp only [HE2.out]; rfl), by rw [HN.out]; exact HB.out⟩
set_option maxRecDepth 100000 in
set_option maxHeartbeats 1000000 in
theorem Neg_no (n : Nat) (hn : n < 115792089237316195423570985008687907853269984665640564039457584007913129639936) (gn : ∀ p : Pt, pN p ≠ n) (w : World) :
    Calls Try.prog 16 #[.agg (PB n)] w fun e w' => e = .returned (.tuple #[.agg (PB 0), .bool false]) ∧ Below w.heap.size w w' := by
  have HLn := Lib.hid hn
  have HNn := Lib.hid gn
  clear hn gn
  have HQ1 := Lib.hid (fun w => XY_no n HLn.out HNn.out w)
  have hz0 := zPt
  have hz1 := zNu
  go_enter Try.func16, Try.ntmps16
  go_upto_region 1 with fail
  generalize hW1 : World.alloc _ _ = W1
  obtain ⟨N, hN⟩ : ∃ n, w.heap.size = n := ⟨_, rfl⟩
  have HX0 := Lib.hid (show CT W1 N 24 (PB n) by subst hW1; rw [← hN]; exact (allocs2_at w _ _).1)
  have HX1 := Lib.hid (show CT W1 (N + 1) 24 (PB 0) by subst hW1; rw [← hN]; exact (allocs2_at w _ _).2)
  have HB := Lib.hid (show Below N w W1 by subst hW1; rw [← hN]; exact allocs2_below w _ _)
  have HN := Lib.hid hN
  rw [hN]
  clear hW1 hN
  refine wp_region_seq 6 ?_
  simp only [List.take_succ_cons, List.take_zero, List.drop_succ_cons, List.drop_zero]
  refine upW_val (by rfl) (by rfl) (by rfl) (fun K hK => quiet_load_ct _ _ rfl N rfl 24 (PB n) 32 (PB_rw n) _ HX0.out Try.underlying24 rfl (by kernel_rfl) (hK _ ?_))
  simp only [Act.put, List.setIfInBounds_toArray, List.set]
  refine upW_call (by rfl) (by rfl) (.tuple #[.agg (NB 0), .agg (NB 0), .bool false]) _ rfl (by simp) (fun p => ?_) ?_
  · go_big_quiet_op
    exact ⟨_, fun q => Calls.ext_of (HQ1.out q.x), rfl⟩
  simp only [Act.put, List.setIfInBounds_toArray, List.set]
  refine upW_val (by rfl) (by rfl) (by rfl) ?_
  intro K hK
  go_big_quiet_op
  refine hK _ ?_
  refine upW_late (by rfl) (.agg (NB 0)) (fun _ => rfl) ?_
  simp only [Act.put, List.setIfInBounds_toArray, List.set]
  refine upW_late (by rfl) (.agg (NB 0)) (fun _ => rfl) ?_
  simp only [Act.put, List.setIfInBounds_toArray, List.set]
  refine upW_late (by rfl) (.bool false) (fun _ => rfl) ?_
  simp only [Act.put, List.setIfInBounds_toArray, List.set]
  refine upW_nil (fun wr1 hbr1 => ?_)
  replace HX0 := Lib.hid (HX0.out.ext hbr1)
  replace HX1 := Lib.hid (HX1.out.ext hbr1)
  replace HB := Lib.hid (HB.out.trans (hbr1.mono (show N ≤ _ by have := HB.out.size; have := HN.out; omega)))
  clear hbr1
  refine wpList_new2 rfl rfl 26 rfl rfl (NB 0) zNu rfl rfl _ _ _ _ rfl rfl (NB 0) (NB 0) 32 (NB_rw 0) (NB_rw 0) (NB_rw 0).size (by kernel_rfl) rfl rfl rfl rfl rfl rfl (fun B2a B2b wr2 hB2a hB2b hbr2 hCB2a hCB2b => ?_)
  have HB2a := Lib.hid hCB2a
  have HB2b := Lib.hid hCB2b
  have hlB2aX0 : N < B2a := by rw [← hB2a]; exact HX0.out.lt
  have hlB2bX0 : N < B2b := by omega
  have hlB2aX1 : (N + 1) < B2a := by rw [← hB2a]; exact HX1.out.lt
  have hlB2bX1 : (N + 1) < B2b := by omega
  have hNB2a : N ≤ B2a := by rw [← hB2a]; have := HB.out.size; have := HN.out; omega
  have hNB2b : N ≤ B2b := by omega
  clear hB2a hCB2a hCB2b
  simp only [Act.put, List.setIfInBounds_toArray, List.set]
  replace HX0 := Lib.hid (HX0.out.ext hbr2)
  replace HX1 := Lib.hid (HX1.out.ext hbr2)
  replace HB := Lib.hid (HB.out.trans (hbr2.mono (show N ≤ _ by have := HB.out.size; have := HN.out; omega)))
  clear hbr2
  go_upto_region 3 with fail
  refine wp_region_seq 1 ?_
  simp only [List.take_succ_cons, List.take_zero, List.drop_succ_cons, List.drop_zero]
  refine upW_late (by rfl) (.agg (PB 0)) (fun w => run_built _ _ _ _ rfl _ (by kernel_rfl) w) ?_
  simp only [Act.put, List.setIfInBounds_toArray, List.set]
  refine upW_nil (fun wr3 hbr3 => ?_)
  replace HX0 := Lib.hid (HX0.out.ext hbr3)
  replace HX1 := Lib.hid (HX1.out.ext hbr3)
  replace HB2a := Lib.hid (HB2a.out.ext hbr3)
  replace HB2b := Lib.hid (HB2b.out.ext hbr3)
  replace HB := Lib.hid (HB.out.trans (hbr3.mono (show N ≤ _ by have := HB.out.size; have := HN.out; omega)))
  clear hbr3
  refine wpList_store_ct rfl 24 _ _ rfl (N + 1) (PB 0) rfl rfl 24 (PB 0) 32 HX1.out (by kernel_rfl) (PB_rw 0) (PB_rw 0) rfl (fun wr4 hSwr4 hOwr4 hWwr4 => ?_)
  replace HX1 := Lib.hid hSwr4
  replace HB := Lib.hid (hWwr4 _ _ HB.out (by omega))
  replace HX0 := Lib.hid (HX0.out.other (hOwr4 _ (by omega)))
  replace HB2a := Lib.hid (HB2a.out.other (hOwr4 _ (by omega)))
  replace HB2b := Lib.hid (HB2b.out.other (hOwr4 _ (by omega)))
  clear hSwr4 hOwr4 hWwr4
  go_wp2
  refine bodyPost_ret (results_ct_slot (p := 2) (q := 3) (by rfl) _ _ (N + 1) 24 (PB 0) 32 _ (.bool false) (by rfl) HX1.out (PB_rw 0) Try.underlying24 rfl (by kernel_rfl) rfl) rfl ⟨by first | rfl | (rfl), by rw [HN.out]; exact HB.out⟩
set_option maxRecDepth 100000 in
set_option maxHeartbeats 1000000 in
theorem Add_ok (p q : Pt) (w : World) :
    Calls Try.prog 15 #[.agg (PB (pN p)), .agg (PB (pN q))] w fun e w' => e = .returned (.tuple #[.agg (PB (pN (padd p q))), .bool true]) ∧ Below w.heap.size w w' := by
  have HQ1 := Lib.hid (fun w => read_ok p w)
  have HQ2 := Lib.hid (fun w => read_ok q w)
  obtain ⟨c3, hc3⟩ : ∃ zq : Fp, zq = (((p.y + p.x) * (q.y + q.x)) - ((p.y - p.x) * (q.y - q.x))) * ((1 * 1 + 1 * 1) - (cD * ((p.x * p.y) * (q.x * q.y)) + cD * ((p.x * p.y) * (q.x * q.y)))) := ⟨_, rfl⟩
  have HE3 := Lib.hid hc3
  clear hc3
  obtain ⟨c4, hc4⟩ : ∃ zq : Fp, zq = (((p.y + p.x) * (q.y + q.x)) + ((p.y - p.x) * (q.y - q.x))) * ((1 * 1 + 1 * 1) + (cD * ((p.x * p.y) * (q.x * q.y)) + cD * ((p.x * p.y) * (q.x * q.y)))) := ⟨_, rfl⟩
  have HE4 := Lib.hid hc4
  clear hc4
  obtain ⟨c5, hc5⟩ : ∃ zq : Fp, zq = ((1 * 1 + 1 * 1) + (cD * ((p.x * p.y) * (q.x * q.y)) + cD * ((p.x * p.y) * (q.x * q.y)))) * ((1 * 1 + 1 * 1) - (cD * ((p.x * p.y) * (q.x * q.y)) + cD * ((p.x * p.y) * (q.x * q.y)))) := ⟨_, rfl⟩
  have HE5 := Lib.hid hc5
  clear hc5
  obtain ⟨c6, hc6⟩ : ∃ zq : Fp, zq = (((p.y + p.x) * (q.y + q.x)) - ((p.y - p.x) * (q.y - q.x))) * (((p.y + p.x) * (q.y + q.x)) + ((p.y - p.x) * (q.y - q.x))) := ⟨_, rfl⟩
  have HE6 := Lib.hid hc6
  clear hc6
  have HQ7 := Lib.hid (fun w => add_any p.x p.y 1 (p.x * p.y) q.x q.y 1 (q.x * q.y) w)
  rw [← HE3.out, ← HE4.out, ← HE5.out, ← HE6.out] at HQ7
  obtain ⟨c8, hc8⟩ : ∃ zq : Fp, zq = c3 * finv c5 := ⟨_, rfl⟩
  have HE8 := Lib.hid hc8
  clear hc8
  obtain ⟨c9, hc9⟩ : ∃ zq : Fp, zq = c4 * finv c5 := ⟨_, rfl⟩
  have HE9 := Lib.hid hc9
  clear hc9
  have HQ10 := Lib.hid (fun w => point_any c3 c4 c5 c6 w)
  rw [← HE8.out, ← HE9.out] at HQ10
  have hz0 := zPt
  have hz1 := zFr
  go_enter Try.func15, Try.ntmps15
  go_upto_region 1 with fail
  generalize hW1 : World.alloc _ _ = W1
  obtain ⟨N, hN⟩ : ∃ n, w.heap.size = n := ⟨_, rfl⟩
  have HX0 := Lib.hid (show CT W1 N 24 (PB (pN p)) by subst hW1; rw [← hN]; exact (allocs3_at w _ _ _).1)
  have HX1 := Lib.hid (show CT W1 (N + 1) 24 (PB (pN q)) by subst hW1; rw [← hN]; exact (allocs3_at w _ _ _).2.1)
  have HX2 := Lib.hid (show CT W1 (N + 1 + 1) 24 (PB 0) by subst hW1; rw [← hN]; exact (allocs3_at w _ _ _).2.2)
  have HB := Lib.hid (show Below N w W1 by subst hW1; rw [← hN]; exact allocs3_below w _ _ _)
  have HN := Lib.hid hN
  rw [hN]
  clear hW1 hN
  refine wp_region_seq 5 ?_
  simp only [List.take_succ_cons, List.take_zero, List.drop_succ_cons, List.drop_zero]
  refine upW_val (by rfl) (by rfl) (by rfl) (fun K hK => quiet_load_ct _ _ rfl N rfl 24 (PB (pN p)) 32 (PB_rw (pN p)) _ HX0.out Try.underlying24 rfl (by kernel_rfl) (hK _ ?_))
  simp only [Act.put, List.setIfInBounds_toArray, List.set]
  refine upW_call (by rfl) (by rfl) (.tuple #[.agg (FR p.x p.y 1 (p.x * p.y)), .bool true]) _ rfl (by simp) (fun p => ?_) ?_
  · go_big_quiet_op
    exact ⟨_, fun q => Calls.ext_of (HQ1.out q.x), rfl⟩
  simp only [Act.put, List.setIfInBounds_toArray, List.set]
  refine upW_val (by rfl) (by rfl) (by rfl) ?_
  intro K hK
  go_big_quiet_op
  refine hK _ ?_
  refine upW_late (by rfl) (.agg (FR p.x p.y 1 (p.x * p.y))) (fun _ => rfl) ?_
  simp only [Act.put, List.setIfInBounds_toArray, List.set]
  refine upW_late (by rfl) (.bool true) (fun _ => rfl) ?_
  simp only [Act.put, List.setIfInBounds_toArray, List.set]
  refine upW_nil (fun wr1 hbr1 => ?_)
  replace HX0 := Lib.hid (HX0.out.ext hbr1)
  replace HX1 := Lib.hid (HX1.out.ext hbr1)
  replace HX2 := Lib.hid (HX2.out.ext hbr1)
  replace HB := Lib.hid (HB.out.trans (hbr1.mono (show N ≤ _ by have := HB.out.size; have := HN.out; omega)))
  clear hbr1
  refine wpList_new1 rfl 76 rfl (FR 0 0 0 0) zFr rfl _ _ rfl rfl (FR p.x p.y 1 (p.x * p.y)) 128 (FR_rw p.x p.y 1 (p.x * p.y)) (FR_rw 0 0 0 0).size (by kernel_rfl) rfl rfl (fun B2 wr2 hB2 hbr2 hCB2 => ?_)
  have HB2 := Lib.hid hCB2
  have hlB2X0 : N < B2 := by rw [← hB2]; exact HX0.out.lt
  have hlB2X1 : (N + 1) < B2 := by rw [← hB2]; exact HX1.out.lt
  have hlB2X2 : (N + 1 + 1) < B2 := by rw [← hB2]; exact HX2.out.lt
  have hNB2 : N ≤ B2 := by rw [← hB2]; have := HB.out.size; have := HN.out; omega
  clear hB2 hCB2
  simp only [Act.put, List.setIfInBounds_toArray, List.set]
  replace HX0 := Lib.hid (HX0.out.ext hbr2)
  replace HX1 := Lib.hid (HX1.out.ext hbr2)
  replace HX2 := Lib.hid (HX2.out.ext hbr2)
  replace HB := Lib.hid (HB.out.trans (hbr2.mono (show N ≤ _ by have := HB.out.size; have := HN.out; omega)))
  clear hbr2
  go_upto_region 2 with fail
  refine wp_region_seq 5 ?_
  simp only [List.take_succ_cons, List.take_zero, List.drop_succ_cons, List.drop_zero]
  refine upW_val (by rfl) (by rfl) (by rfl) (fun K hK => quiet_load_ct _ _ rfl (N + 1) rfl 24 (PB (pN q)) 32 (PB_rw (pN q)) _ HX1.out Try.underlying24 rfl (by kernel_rfl) (hK _ ?_))
  simp only [Act.put, List.setIfInBounds_toArray, List.set]
  refine upW_call (by rfl) (by rfl) (.tuple #[.agg (FR q.x q.y 1 (q.x * q.y)), .bool true]) _ rfl (by simp) (fun p => ?_) ?_
  · go_big_quiet_op
    exact ⟨_, fun q => Calls.ext_of (HQ2.out q.x), rfl⟩
  simp only [Act.put, List.setIfInBounds_toArray, List.set]
  refine upW_val (by rfl) (by rfl) (by rfl) ?_
  intro K hK
  go_big_quiet_op
  refine hK _ ?_
  refine upW_late (by rfl) (.agg (FR q.x q.y 1 (q.x * q.y))) (fun _ => rfl) ?_
  simp only [Act.put, List.setIfInBounds_toArray, List.set]
  refine upW_late (by rfl) (.bool true) (fun _ => rfl) ?_
  simp only [Act.put, List.setIfInBounds_toArray, List.set]
  refine upW_nil (fun wr3 hbr3 => ?_)
  replace HX0 := Lib.hid (HX0.out.ext hbr3)
  replace HX1 := Lib.hid (HX1.out.ext hbr3)
  replace HX2 := Lib.hid (HX2.out.ext hbr3)
  replace HB2 := Lib.hid (HB2.out.ext hbr3)
  replace HB := Lib.hid (HB.out.trans (hbr3.mono (show N ≤ _ by have := HB.out.size; have := HN.out; omega)))
  clear hbr3
  refine wpList_new1 rfl 76 rfl (FR 0 0 0 0) zFr rfl _ _ rfl rfl (FR q.x q.y 1 (q.x * q.y)) 128 (FR_rw q.x q.y 1 (q.x * q.y)) (FR_rw 0 0 0 0).size (by kernel_rfl) rfl rfl (fun B4 wr4 hB4 hbr4 hCB4 => ?_)
  have HB4 := Lib.hid hCB4
  have hlB4X0 : N < B4 := by rw [← hB4]; exact HX0.out.lt
  have hlB4X1 : (N + 1) < B4 := by rw [← hB4]; exact HX1.out.lt
  have hlB4X2 : (N + 1 + 1) < B4 := by rw [← hB4]; exact HX2.out.lt
  have hlB4B2 : B2 < B4 := by rw [← hB4]; exact HB2.out.lt
  have hNB4 : N ≤ B4 := by rw [← hB4]; have := HB.out.size; have := HN.out; omega
  clear hB4 hCB4
  simp only [Act.put, List.setIfInBounds_toArray, List.set]
  replace HX0 := Lib.hid (HX0.out.ext hbr4)
  replace HX1 := Lib.hid (HX1.out.ext hbr4)
  replace HX2 := Lib.hid (HX2.out.ext hbr4)
  replace HB2 := Lib.hid (HB2.out.ext hbr4)
  replace HB := Lib.hid (HB.out.trans (hbr4.mono (show N ≤ _ by have := HB.out.size; have := HN.out; omega)))
  clear hbr4
  go_upto_region 5 with fail
  refine wp_region_seq 4 ?_
  simp only [List.take_succ_cons, List.take_zero, List.drop_succ_cons, List.drop_zero]
  refine upW_val (by rfl) (by rfl) (by rfl) (fun K hK => quiet_load_ct _ _ rfl B2 rfl 76 (FR p.x p.y 1 (p.x * p.y)) 128 (FR_rw p.x p.y 1 (p.x * p.y)) _ HB2.out Try.underlying76 rfl (by kernel_rfl) (hK _ ?_))
  simp only [Act.put, List.setIfInBounds_toArray, List.set]
  refine upW_val (by rfl) (by rfl) (by rfl) (fun K hK => quiet_load_ct _ _ rfl B4 rfl 76 (FR q.x q.y 1 (q.x * q.y)) 128 (FR_rw q.x q.y 1 (q.x * q.y)) _ HB4.out Try.underlying76 rfl (by kernel_rfl) (hK _ ?_))
  simp only [Act.put, List.setIfInBounds_toArray, List.set]
  refine upW_call (by rfl) (by rfl) (.agg (FR c3 c4 c5 c6)) _ rfl (by simp) (fun p => ?_) ?_
  · go_big_quiet_op
    exact ⟨_, fun q => Calls.ext_of (HQ7.out q.x), rfl⟩
  simp only [Act.put, List.setIfInBounds_toArray, List.set]
  refine upW_call (by rfl) (by rfl) (.agg (PB (encXY c8 c9))) _ rfl (by simp) (fun p => ?_) ?_
  · go_big_quiet_op
    exact ⟨_, fun q => Calls.ext_of (HQ10.out q.x), rfl⟩
  simp only [Act.put, List.setIfInBounds_toArray, List.set]
  refine upW_nil (fun wr5 hbr5 => ?_)
  replace HX0 := Lib.hid (HX0.out.ext hbr5)
  replace HX1 := Lib.hid (HX1.out.ext hbr5)
  replace HX2 := Lib.hid (HX2.out.ext hbr5)
  replace HB2 := Lib.hid (HB2.out.ext hbr5)
  replace HB4 := Lib.hid (HB4.out.ext hbr5)
  replace HB := Lib.hid (HB.out.trans (hbr5.mono (show N ≤ _ by have := HB.out.size; have := HN.out; omega)))
  clear hbr5
  refine wpList_store_ct rfl 24 _ _ rfl (N + 1 + 1) (PB (encXY c8 c9)) rfl rfl 24 (PB 0) 32 HX2.out (by kernel_rfl) (PB_rw 0) (PB_rw (encXY c8 c9)) rfl (fun wr6 hSwr6 hOwr6 hWwr6 => ?_)
  replace HX2 := Lib.hid hSwr6
  replace HB := Lib.hid (hWwr6 _ _ HB.out (by omega))
  replace HX0 := Lib.hid (HX0.out.other (hOwr6 _ (by omega)))
  replace HX1 := Lib.hid (HX1.out.other (hOwr6 _ (by omega)))
  replace HB2 := Lib.hid (HB2.out.other (hOwr6 _ (by omega)))
  replace HB4 := Lib.hid (HB4.out.other (hOwr6 _ (by omega)))
  clear hSwr6 hOwr6 hWwr6
  go_wp2
  refine bodyPost_ret (results_ct_slot (p := 4) (q := 5) (by rfl) _ _ (N + 1 + 1) 24 (PB (encXY c8 c9)) 32 _ (.bool true) (by rfl) HX2.out (PB_rw (encXY c8 c9)) Try.underlying24 rfl (by kernel_rfl) rfl) rfl ⟨congrArg (fun k => Ending.returned (.tuple #[.agg (PB k), .bool true])) (by simp only [HE3.out, HE4.out, HE5.out, HE6.out, HE8.out, HE9.out]; exact rep_point (addP_rep (rep_flat p) (rep_flat q))), by rw [HN.out]; exact HB.out⟩
set_option maxRecDepth 100000 in
set_option maxHeartbeats 1000000 in
theorem Add_nn (n : Nat) (hn : n < 115792089237316195423570985008687907853269984665640564039457584007913129639936) (gn : ∀ p : Pt, pN p ≠ n) (m : Nat) (hm : m < 115792089237316195423570985008687907853269984665640564039457584007913129639936) (gm : ∀ p : Pt, pN p ≠ m) (w : World) :
    Calls Try.prog 15 #[.agg (PB n), .agg (PB m)] w fun e w' => e = .returned (.tuple #[.agg (PB 0), .bool false]) ∧ Below w.heap.size w w' := by
  have HLn := Lib.hid hn
  have HNn := Lib.hid gn
  clear hn gn
  have HLm := Lib.hid hm
  have HNm := Lib.hid gm
  clear hm gm
  have HQ1 := Lib.hid (fun w => read_no n HLn.out HNn.out w)
  have HQ2 := Lib.hid (fun w => read_no m HLm.out HNm.out w)
  have hz0 := zPt
  have hz1 := zFr
  go_enter Try.func15, Try.ntmps15
  go_upto_region 1 with fail
  generalize hW1 : World.alloc _ _ = W1
  obtain ⟨N, hN⟩ : ∃ n, w.heap.size = n := ⟨_, rfl⟩
  have HX0 := Lib.hid (show CT W1 N 24 (PB n) by subst hW1; rw [← hN]; exact (allocs3_at w _ _ _).1)
  have HX1 := Lib.hid (show CT W1 (N + 1) 24 (PB m) by subst hW1; rw [← hN]; exact (allocs3_at w _ _ _).2.1)
  have HX2 := Lib.hid (show CT W1 (N + 1 + 1) 24 (PB 0) by subst hW1; rw [← hN]; exact (allocs3_at w _ _ _).2.2)
  have HB := Lib.hid (show Below N w W1 by subst hW1; rw [← hN]; exact allocs3_below w _ _ _)
  have HN := Lib.hid hN
  rw [hN]
  clear hW1 hN
  refine wp_region_seq 5 ?_
  simp only [List.take_succ_cons, List.take_zero, List.drop_succ_cons, List.drop_zero]
  refine upW_val (by rfl) (by rfl) (by rfl) (fun K hK => quiet_load_ct _ _ rfl N rfl 24 (PB n) 32 (PB_rw n) _ HX0.out Try.underlying24 rfl (by kernel_rfl) (hK _ ?_))
  simp only [Act.put, List.setIfInBounds_toArray, List.set]
  refine upW_call (by rfl) (by rfl) (.tuple #[.agg (FR 0 0 0 0), .bool false]) _ rfl (by simp) (fun p => ?_) ?_
  · go_big_quiet_op
    exact ⟨_, fun q => Calls.ext_of (HQ1.out q.x), rfl⟩
  simp only [Act.put, List.setIfInBounds_toArray, List.set]
  refine upW_val (by rfl) (by rfl) (by rfl) ?_
  intro K hK
  go_big_quiet_op
  refine hK _ ?_
  refine upW_late (by rfl) (.agg (FR 0 0 0 0)) (fun _ => rfl) ?_
  simp only [Act.put, List.setIfInBounds_toArray, List.set]
  refine upW_late (by rfl) (.bool false) (fun _ => rfl) ?_
  simp only [Act.put, List.setIfInBounds_toArray, List.set]
  refine upW_nil (fun wr1 hbr1 => ?_)
  replace HX0 := Lib.hid (HX0.out.ext hbr1)
  replace HX1 := Lib.hid (HX1.out.ext hbr1)
  replace HX2 := Lib.hid (HX2.out.ext hbr1)
  replace HB := Lib.hid (HB.out.trans (hbr1.mono (show N ≤ _ by have := HB.out.size; have := HN.out; omega)))
  clear hbr1
  refine wpList_new1 rfl 76 rfl (FR 0 0 0 0) zFr rfl _ _ rfl rfl (FR 0 0 0 0) 128 (FR_rw 0 0 0 0) (FR_rw 0 0 0 0).size (by kernel_rfl) rfl rfl (fun B2 wr2 hB2 hbr2 hCB2 => ?_)
  have HB2 := Lib.hid hCB2
  have hlB2X0 : N < B2 := by rw [← hB2]; exact HX0.out.lt
  have hlB2X1 : (N + 1) < B2 := by rw [← hB2]; exact HX1.out.lt
  have hlB2X2 : (N + 1 + 1) < B2 := by rw [← hB2]; exact HX2.out.lt
  have hNB2 : N ≤ B2 := by rw [← hB2]; have := HB.out.size; have := HN.out; omega
  clear hB2 hCB2
  simp only [Act.put, List.setIfInBounds_toArray, List.set]
  replace HX0 := Lib.hid (HX0.out.ext hbr2)
  replace HX1 := Lib.hid (HX1.out.ext hbr2)
  replace HX2 := Lib.hid (HX2.out.ext hbr2)
  replace HB := Lib.hid (HB.out.trans (hbr2.mono (show N ≤ _ by have := HB.out.size; have := HN.out; omega)))
  clear hbr2
  go_upto_region 2 with fail
  refine wp_region_seq 5 ?_
  simp only [List.take_succ_cons, List.take_zero, List.drop_succ_cons, List.drop_zero]
  refine upW_val (by rfl) (by rfl) (by rfl) (fun K hK => quiet_load_ct _ _ rfl (N + 1) rfl 24 (PB m) 32 (PB_rw m) _ HX1.out Try.underlying24 rfl (by kernel_rfl) (hK _ ?_))
  simp only [Act.put, List.setIfInBounds_toArray, List.set]
  refine upW_call (by rfl) (by rfl) (.tuple #[.agg (FR 0 0 0 0), .bool false]) _ rfl (by simp) (fun p => ?_) ?_
  · go_big_quiet_op
    exact ⟨_, fun q => Calls.ext_of (HQ2.out q.x), rfl⟩
  simp only [Act.put, List.setIfInBounds_toArray, List.set]
  refine upW_val (by rfl) (by rfl) (by rfl) ?_
  intro K hK
  go_big_quiet_op
  refine hK _ ?_
  refine upW_late (by rfl) (.agg (FR 0 0 0 0)) (fun _ => rfl) ?_
  simp only [Act.put, List.setIfInBounds_toArray, List.set]
  refine upW_late (by rfl) (.bool false) (fun _ => rfl) ?_
  simp only [Act.put, List.setIfInBounds_toArray, List.set]
  refine upW_nil (fun wr3 hbr3 => ?_)
  replace HX0 := Lib.hid (HX0.out.ext hbr3)
  replace HX1 := Lib.hid (HX1.out.ext hbr3)
  replace HX2 := Lib.hid (HX2.out.ext hbr3)
  replace HB2 := Lib.hid (HB2.out.ext hbr3)
  replace HB := Lib.hid (HB.out.trans (hbr3.mono (show N ≤ _ by have := HB.out.size; have := HN.out; omega)))
  clear hbr3
  refine wpList_new1 rfl 76 rfl (FR 0 0 0 0) zFr rfl _ _ rfl rfl (FR 0 0 0 0) 128 (FR_rw 0 0 0 0) (FR_rw 0 0 0 0).size (by kernel_rfl) rfl rfl (fun B4 wr4 hB4 hbr4 hCB4 => ?_)
  have HB4 := Lib.hid hCB4
  have hlB4X0 : N < B4 := by rw [← hB4]; exact HX0.out.lt
  have hlB4X1 : (N + 1) < B4 := by rw [← hB4]; exact HX1.out.lt
  have hlB4X2 : (N + 1 + 1) < B4 := by rw [← hB4]; exact HX2.out.lt
  have hlB4B2 : B2 < B4 := by rw [← hB4]; exact HB2.out.lt
  have hNB4 : N ≤ B4 := by rw [← hB4]; have := HB.out.size; have := HN.out; omega
  clear hB4 hCB4
  simp only [Act.put, List.setIfInBounds_toArray, List.set]
  replace HX0 := Lib.hid (HX0.out.ext hbr4)
  replace HX1 := Lib.hid (HX1.out.ext hbr4)
  replace HX2 := Lib.hid (HX2.out.ext hbr4)
  replace HB2 := Lib.hid (HB2.out.ext hbr4)
  replace HB := Lib.hid (HB.out.trans (hbr4.mono (show N ≤ _ by have := HB.out.size; have := HN.out; omega)))
  clear hbr4
  go_upto_region 4 with fail
  refine wp_region_seq 1 ?_
  simp only [List.take_succ_cons, List.take_zero, List.drop_succ_cons, List.drop_zero]
  refine upW_late (by rfl) (.agg (PB 0)) (fun w => run_built _ _ _ _ rfl _ (by kernel_rfl) w) ?_
  simp only [Act.put, List.setIfInBounds_toArray, List.set]
  refine upW_nil (fun wr5 hbr5 => ?_)
  replace HX0 := Lib.hid (HX0.out.ext hbr5)
  replace HX1 := Lib.hid (HX1.out.ext hbr5)
  replace HX2 := Lib.hid (HX2.out.ext hbr5)
  replace HB2 := Lib.hid (HB2.out.ext hbr5)
  replace HB4 := Lib.hid (HB4.out.ext hbr5)
  replace HB := Lib.hid (HB.out.trans (hbr5.mono (show N ≤ _ by have := HB.out.size; have := HN.out; omega)))
  clear hbr5
  refine wpList_store_ct rfl 24 _ _ rfl (N + 1 + 1) (PB 0) rfl rfl 24 (PB 0) 32 HX2.out (by kernel_rfl) (PB_rw 0) (PB_rw 0) rfl (fun wr6 hSwr6 hOwr6 hWwr6 => ?_)
  replace HX2 := Lib.hid hSwr6
  replace HB := Lib.hid (hWwr6 _ _ HB.out (by omega))
  replace HX0 := Lib.hid (HX0.out.other (hOwr6 _ (by omega)))
  replace HX1 := Lib.hid (HX1.out.other (hOwr6 _ (by omega)))
  replace HB2 := Lib.hid (HB2.out.other (hOwr6 _ (by omega)))
  replace HB4 := Lib.hid (HB4.out.other (hOwr6 _ (by omega)))
  clear hSwr6 hOwr6 hWwr6
  go_wp2
  refine bodyPost_ret (results_ct_slot (p := 4) (q := 5) (by rfl) _ _ (N + 1 + 1) 24 (PB 0) 32 _ (.bool false) (by rfl) HX2.out (PB_rw 0) Try.underlying24 rfl (by kernel_rfl) rfl) rfl ⟨by first | rfl | (rfl), by rw [HN.out]; exact HB.out⟩
set_option maxRecDepth 100000 in
set_option maxHeartbeats 1000000 in
theorem Add_ny (n : Nat) (hn : n < 115792089237316195423570985008687907853269984665640564039457584007913129639936) (gn : ∀ p : Pt, pN p ≠ n) (q : Pt) (w : World) :
    Calls Try.prog 15 #[.agg (PB n), .agg (PB (pN q))] w fun e w' => e = .returned (.tuple #[.agg (PB 0), .bool false]) ∧ Below w.heap.size w w' := by
  have HLn := Lib.hid hn
  have HNn := Lib.hid gn
  clear hn gn
  have HQ1 := Lib.hid (fun w => read_no n HLn.out HNn.out w)
  have HQ2 := Lib.hid (fun w => read_ok q w)
  have hz0 := zPt
  have hz1 := zFr
  go_enter Try.func15, Try.ntmps15
  go_upto_region 1 with fail
  generalize hW1 : World.alloc _ _ = W1
  obtain ⟨N, hN⟩ : ∃ n, w.heap.size = n := ⟨_, rfl⟩
  have HX0 := Lib.hid (show CT W1 N 24 (PB n) by subst hW1; rw [← hN]; exact (allocs3_at w _ _ _).1)
  have HX1 := Lib.hid (show CT W1 (N + 1) 24 (PB (pN q)) by subst hW1; rw [← hN]; exact (allocs3_at w _ _ _).2.1)
  have HX2 := Lib.hid (show CT W1 (N + 1 + 1) 24 (PB 0) by subst hW1; rw [← hN]; exact (allocs3_at w _ _ _).2.2)
  have HB := Lib.hid (show Below N w W1 by subst hW1; rw [← hN]; exact allocs3_below w _ _ _)
  have HN := Lib.hid hN
  rw [hN]
  clear hW1 hN
  refine wp_region_seq 5 ?_
  simp only [List.take_succ_cons, List.take_zero, List.drop_succ_cons, List.drop_zero]
  refine upW_val (by rfl) (by rfl) (by rfl) (fun K hK => quiet_load_ct _ _ rfl N rfl 24 (PB n) 32 (PB_rw n) _ HX0.out Try.underlying24 rfl (by kernel_rfl) (hK _ ?_))
  simp only [Act.put, List.setIfInBounds_toArray, List.set]
  refine upW_call (by rfl) (by rfl) (.tuple #[.agg (FR 0 0 0 0), .bool false]) _ rfl (by simp) (fun p => ?_) ?_
  · go_big_quiet_op
    exact ⟨_, fun q => Calls.ext_of (HQ1.out q.x), rfl⟩
  simp only [Act.put, List.setIfInBounds_toArray, List.set]
  refine upW_val (by rfl) (by rfl) (by rfl) ?_
  intro K hK
  go_big_quiet_op
  refine hK _ ?_
  refine upW_late (by rfl) (.agg (FR 0 0 0 0)) (fun _ => rfl) ?_
  simp only [Act.put, List.setIfInBounds_toArray, List.set]
  refine upW_late (by rfl) (.bool false) (fun _ => rfl) ?_
  simp only [Act.put, List.setIfInBounds_toArray, List.set]
  refine upW_nil (fun wr1 hbr1 => ?_)
  replace HX0 := Lib.hid (HX0.out.ext hbr1)
  replace HX1 := Lib.hid (HX1.out.ext hbr1)
  replace HX2 := Lib.hid (HX2.out.ext hbr1)
  replace HB := Lib.hid (HB.out.trans (hbr1.mono (show N ≤ _ by have := HB.out.size; have := HN.out; omega)))
  clear hbr1
  refine wpList_new1 rfl 76 rfl (FR 0 0 0 0) zFr rfl _ _ rfl rfl (FR 0 0 0 0) 128 (FR_rw 0 0 0 0) (FR_rw 0 0 0 0).size (by kernel_rfl) rfl rfl (fun B2 wr2 hB2 hbr2 hCB2 => ?_)
  have HB2 := Lib.hid hCB2
  have hlB2X0 : N < B2 := by rw [← hB2]; exact HX0.out.lt
  have hlB2X1 : (N + 1) < B2 := by rw [← hB2]; exact HX1.out.lt
  have hlB2X2 : (N + 1 + 1) < B2 := by rw [← hB2]; exact HX2.out.lt
  have hNB2 : N ≤ B2 := by rw [← hB2]; have := HB.out.size; have := HN.out; omega
  clear hB2 hCB2
  simp only [Act.put, List.setIfInBounds_toArray, List.set]
  replace HX0 := Lib.hid (HX0.out.ext hbr2)
  replace HX1 := Lib.hid (HX1.out.ext hbr2)
  replace HX2 := Lib.hid (HX2.out.ext hbr2)
  replace HB := Lib.hid (HB.out.trans (hbr2.mono (show N ≤ _ by have := HB.out.size; have := HN.out; omega)))
  clear hbr2
  go_upto_region 2 with fail
  refine wp_region_seq 5 ?_
  simp only [List.take_succ_cons, List.take_zero, List.drop_succ_cons, List.drop_zero]
  refine upW_val (by rfl) (by rfl) (by rfl) (fun K hK => quiet_load_ct _ _ rfl (N + 1) rfl 24 (PB (pN q)) 32 (PB_rw (pN q)) _ HX1.out Try.underlying24 rfl (by kernel_rfl) (hK _ ?_))
  simp only [Act.put, List.setIfInBounds_toArray, List.set]
  refine upW_call (by rfl) (by rfl) (.tuple #[.agg (FR q.x q.y 1 (q.x * q.y)), .bool true]) _ rfl (by simp) (fun p => ?_) ?_
  · go_big_quiet_op
    exact ⟨_, fun q => Calls.ext_of (HQ2.out q.x), rfl⟩
  simp only [Act.put, List.setIfInBounds_toArray, List.set]
  refine upW_val (by rfl) (by rfl) (by rfl) ?_
  intro K hK
  go_big_quiet_op
  refine hK _ ?_
  refine upW_late (by rfl) (.agg (FR q.x q.y 1 (q.x * q.y))) (fun _ => rfl) ?_
  simp only [Act.put, List.setIfInBounds_toArray, List.set]
  refine upW_late (by rfl) (.bool true) (fun _ => rfl) ?_
  simp only [Act.put, List.setIfInBounds_toArray, List.set]
  refine upW_nil (fun wr3 hbr3 => ?_)
  replace HX0 := Lib.hid (HX0.out.ext hbr3)
  replace HX1 := Lib.hid (HX1.out.ext hbr3)
  replace HX2 := Lib.hid (HX2.out.ext hbr3)
  replace HB2 := Lib.hid (HB2.out.ext hbr3)
  replace HB := Lib.hid (HB.out.trans (hbr3.mono (show N ≤ _ by have := HB.out.size; have := HN.out; omega)))
  clear hbr3
  refine wpList_new1 rfl 76 rfl (FR 0 0 0 0) zFr rfl _ _ rfl rfl (FR q.x q.y 1 (q.x * q.y)) 128 (FR_rw q.x q.y 1 (q.x * q.y)) (FR_rw 0 0 0 0).size (by kernel_rfl) rfl rfl (fun B4 wr4 hB4 hbr4 hCB4 => ?_)
  have HB4 := Lib.hid hCB4
  have hlB4X0 : N < B4 := by rw [← hB4]; exact HX0.out.lt
  have hlB4X1 : (N + 1) < B4 := by rw [← hB4]; exact HX1.out.lt
  have hlB4X2 : (N + 1 + 1) < B4 := by rw [← hB4]; exact HX2.out.lt
  have hlB4B2 : B2 < B4 := by rw [← hB4]; exact HB2.out.lt
  have hNB4 : N ≤ B4 := by rw [← hB4]; have := HB.out.size; have := HN.out; omega
  clear hB4 hCB4
  simp only [Act.put, List.setIfInBounds_toArray, List.set]
  replace HX0 := Lib.hid (HX0.out.ext hbr4)
  replace HX1 := Lib.hid (HX1.out.ext hbr4)
  replace HX2 := Lib.hid (HX2.out.ext hbr4)
  replace HB2 := Lib.hid (HB2.out.ext hbr4)
  replace HB := Lib.hid (HB.out.trans (hbr4.mono (show N ≤ _ by have := HB.out.size; have := HN.out; omega)))
  clear hbr4
  go_upto_region 4 with fail
  refine wp_region_seq 1 ?_
  simp only [List.take_succ_cons, List.take_zero, List.drop_succ_cons, List.drop_zero]
  refine upW_late (by rfl) (.agg (PB 0)) (fun w => run_built _ _ _ _ rfl _ (by kernel_rfl) w) ?_
  simp only [Act.put, List.setIfInBounds_toArray, List.set]
  refine upW_nil (fun wr5 hbr5 => ?_)
  replace HX0 := Lib.hid (HX0.out.ext hbr5)
  replace HX1 := Lib.hid (HX1.out.ext hbr5)
  replace HX2 := Lib.hid (HX2.out.ext hbr5)
  replace HB2 := Lib.hid (HB2.out.ext hbr5)
  replace HB4 := Lib.hid (HB4.out.ext hbr5)
  replace HB := Lib.hid (HB.out.trans (hbr5.mono (show N ≤ _ by have := HB.out.size; have := HN.out; omega)))
  clear hbr5
  refine wpList_store_ct rfl 24 _ _ rfl (N + 1 + 1) (PB 0) rfl rfl 24 (PB 0) 32 HX2.out (by kernel_rfl) (PB_rw 0) (PB_rw 0) rfl (fun wr6 hSwr6 hOwr6 hWwr6 => ?_)
  replace HX2 := Lib.hid hSwr6
  replace HB := Lib.hid (hWwr6 _ _ HB.out (by omega))
  replace HX0 := Lib.hid (HX0.out.other (hOwr6 _ (by omega)))
  replace HX1 := Lib.hid (HX1.out.other (hOwr6 _ (by omega)))
  replace HB2 := Lib.hid (HB2.out.other (hOwr6 _ (by omega)))
  replace HB4 := Lib.hid (HB4.out.other (hOwr6 _ (by omega)))
  clear hSwr6 hOwr6 hWwr6
  go_wp2
  refine bodyPost_ret (results_ct_slot (p := 4) (q := 5) (by rfl) _ _ (N + 1 + 1) 24 (PB 0) 32 _ (.bool false) (by rfl) HX2.out (PB_rw 0) Try.underlying24 rfl (by kernel_rfl) rfl) rfl ⟨by first | rfl | (rfl), by rw [HN.out]; exact HB.out⟩
set_option maxRecDepth 100000 in
set_option maxHeartbeats 1000000 in
theorem Add_yn (p : Pt) (n : Nat) (hn : n < 115792089237316195423570985008687907853269984665640564039457584007913129639936) (gn : ∀ p : Pt, pN p ≠ n) (w : World) :
    Calls Try.prog 15 #[.agg (PB (pN p)), .agg (PB n)] w fun e w' => e = .returned (.tuple #[.agg (PB 0), .bool false]) ∧ Below w.heap.size w w' := by
  have HLn := Lib.hid hn
  have HNn := Lib.hid gn
  clear hn gn
  have HQ1 := Lib.hid (fun w => read_ok p w)
  have HQ2 := Lib.hid (fun w => read_no n HLn.out HNn.out w)
  have hz0 := zPt
  have hz1 := zFr
  go_enter Try.func15, Try.ntmps15
  go_upto_region 1 with fail
  generalize hW1 : World.alloc _ _ = W1
  obtain ⟨N, hN⟩ : ∃ n, w.heap.size = n := ⟨_, rfl⟩
  have HX0 := Lib.hid (show CT W1 N 24 (PB (pN p)) by subst hW1; rw [← hN]; exact (allocs3_at w _ _ _).1)
  have HX1 := Lib.hid (show CT W1 (N + 1) 24 (PB n) by subst hW1; rw [← hN]; exact (allocs3_at w _ _ _).2.1)
  have HX2 := Lib.hid (show CT W1 (N + 1 + 1) 24 (PB 0) by subst hW1; rw [← hN]; exact (allocs3_at w _ _ _).2.2)
  have HB := Lib.hid (show Below N w W1 by subst hW1; rw [← hN]; exact allocs3_below w _ _ _)
  have HN := Lib.hid hN
  rw [hN]
  clear hW1 hN
  refine wp_region_seq 5 ?_
  simp only [List.take_succ_cons, List.take_zero, List.drop_succ_cons, List.drop_zero]
  refine upW_val (by rfl) (by rfl) (by rfl) (fun K hK => quiet_load_ct _ _ rfl N rfl 24 (PB (pN p)) 32 (PB_rw (pN p)) _ HX0.out Try.underlying24 rfl (by kernel_rfl) (hK _ ?_))
  simp only [Act.put, List.setIfInBounds_toArray, List.set]
  refine upW_call (by rfl) (by rfl) (.tuple #[.agg (FR p.x p.y 1 (p.x * p.y)), .bool true]) _ rfl (by simp) (fun p => ?_) ?_
  · go_big_quiet_op
    exact ⟨_, fun q => Calls.ext_of (HQ1.out q.x), rfl⟩
  simp only [Act.put, List.setIfInBounds_toArray, List.set]
  refine upW_val (by rfl) (by rfl) (by rfl) ?_
  intro K hK
  go_big_quiet_op
  refine hK _ ?_
  refine upW_late (by rfl) (.agg (FR p.x p.y 1 (p.x * p.y))) (fun _ => rfl) ?_
  simp only [Act.put, List.setIfInBounds_toArray, List.set]
  refine upW_late (by rfl) (.bool true) (fun _ => rfl) ?_
  simp only [Act.put, List.setIfInBounds_toArray, List.set]
  refine upW_nil (fun wr1 hbr1 => ?_)
  replace HX0 := Lib.hid (HX0.out.ext hbr1)
  replace HX1 := Lib.hid (HX1.out.ext hbr1)
  replace HX2 := Lib.hid (HX2.out.ext hbr1)
  replace HB := Lib.hid (HB.out.trans (hbr1.mono (show N ≤ _ by have := HB.out.size; have := HN.out; omega)))
  clear hbr1
  refine wpList_new1 rfl 76 rfl (FR 0 0 0 0) zFr rfl _ _ rfl rfl (FR p.x p.y 1 (p.x * p.y)) 128 (FR_rw p.x p.y 1 (p.x * p.y)) (FR_rw 0 0 0 0).size (by kernel_rfl) rfl rfl (fun B2 wr2 hB2 hbr2 hCB2 => ?_)
  have HB2 := Lib.hid hCB2
  have hlB2X0 : N < B2 := by rw [← hB2]; exact HX0.out.lt
  have hlB2X1 : (N + 1) < B2 := by rw [← hB2]; exact HX1.out.lt
  have hlB2X2 : (N + 1 + 1) < B2 := by rw [← hB2]; exact HX2.out.lt
  have hNB2 : N ≤ B2 := by rw [← hB2]; have := HB.out.size; have := HN.out; omega
  clear hB2 hCB2
  simp only [Act.put, List.setIfInBounds_toArray, List.set]
  replace HX0 := Lib.hid (HX0.out.ext hbr2)
  replace HX1 := Lib.hid (HX1.out.ext hbr2)
  replace HX2 := Lib.hid (HX2.out.ext hbr2)
  replace HB := Lib.hid (HB.out.trans (hbr2.mono (show N ≤ _ by have := HB.out.size; have := HN.out; omega)))
  clear hbr2
  go_upto_region 2 with fail
  refine wp_region_seq 5 ?_
  simp only [List.take_succ_cons, List.take_zero, List.drop_succ_cons, List.drop_zero]
  refine upW_val (by rfl) (by rfl) (by rfl) (fun K hK => quiet_load_ct _ _ rfl (N + 1) rfl 24 (PB n) 32 (PB_rw n) _ HX1.out Try.underlying24 rfl (by kernel_rfl) (hK _ ?_))
  simp only [Act.put, List.setIfInBounds_toArray, List.set]
  refine upW_call (by rfl) (by rfl) (.tuple #[.agg (FR 0 0 0 0), .bool false]) _ rfl (by simp) (fun p => ?_) ?_
  · go_big_quiet_op
    exact ⟨_, fun q => Calls.ext_of (HQ2.out q.x), rfl⟩
  simp only [Act.put, List.setIfInBounds_toArray, List.set]
  refine upW_val (by rfl) (by rfl) (by rfl) ?_
  intro K hK
  go_big_quiet_op
  refine hK _ ?_
  refine upW_late (by rfl) (.agg (FR 0 0 0 0)) (fun _ => rfl) ?_
  simp only [Act.put, List.setIfInBounds_toArray, List.set]
  refine upW_late (by rfl) (.bool false) (fun _ => rfl) ?_
  simp only [Act.put, List.setIfInBounds_toArray, List.set]
  refine upW_nil (fun wr3 hbr3 => ?_)
  replace HX0 := Lib.hid (HX0.out.ext hbr3)
  replace HX1 := Lib.hid (HX1.out.ext hbr3)
  replace HX2 := Lib.hid (HX2.out.ext hbr3)
  replace HB2 := Lib.hid (HB2.out.ext hbr3)
  replace HB := Lib.hid (HB.out.trans (hbr3.mono (show N ≤ _ by have := HB.out.size; have := HN.out; omega)))
  clear hbr3
  refine wpList_new1 rfl 76 rfl (FR 0 0 0 0) zFr rfl _ _ rfl rfl (FR 0 0 0 0) 128 (FR_rw 0 0 0 0) (FR_rw 0 0 0 0).size (by kernel_rfl) rfl rfl (fun B4 wr4 hB4 hbr4 hCB4 => ?_)
  have HB4 := Lib.hid hCB4
  have hlB4X0 : N < B4 := by rw [← hB4]; exact HX0.out.lt
  have hlB4X1 : (N + 1) < B4 := by rw [← hB4]; exact HX1.out.lt
  have hlB4X2 : (N + 1 + 1) < B4 := by rw [← hB4]; exact HX2.out.lt
  have hlB4B2 : B2 < B4 := by rw [← hB4]; exact HB2.out.lt
  have hNB4 : N ≤ B4 := by rw [← hB4]; have := HB.out.size; have := HN.out; omega
  clear hB4 hCB4
  simp only [Act.put, List.setIfInBounds_toArray, List.set]
  replace HX0 := Lib.hid (HX0.out.ext hbr4)
  replace HX1 := Lib.hid (HX1.out.ext hbr4)
  replace HX2 := Lib.hid (HX2.out.ext hbr4)
  replace HB2 := Lib.hid (HB2.out.ext hbr4)
  replace HB := Lib.hid (HB.out.trans (hbr4.mono (show N ≤ _ by have := HB.out.size; have := HN.out; omega)))
  clear hbr4
  go_upto_region 4 with fail
  refine wp_region_seq 1 ?_
  simp only [List.take_succ_cons, List.take_zero, List.drop_succ_cons, List.drop_zero]
  refine upW_late (by rfl) (.agg (PB 0)) (fun w => run_built _ _ _ _ rfl _ (by kernel_rfl) w) ?_
  simp only [Act.put, List.setIfInBounds_toArray, List.set]
  refine upW_nil (fun wr5 hbr5 => ?_)
  replace HX0 := Lib.hid (HX0.out.ext hbr5)
  replace HX1 := Lib.hid (HX1.out.ext hbr5)
  replace HX2 := Lib.hid (HX2.out.ext hbr5)
  replace HB2 := Lib.hid (HB2.out.ext hbr5)
  replace HB4 := Lib.hid (HB4.out.ext hbr5)
  replace HB := Lib.hid (HB.out.trans (hbr5.mono (show N ≤ _ by have := HB.out.size; have := HN.out; omega)))
  clear hbr5
  refine wpList_store_ct rfl 24 _ _ rfl (N + 1 + 1) (PB 0) rfl rfl 24 (PB 0) 32 HX2.out (by kernel_rfl) (PB_rw 0) (PB_rw 0) rfl (fun wr6 hSwr6 hOwr6 hWwr6 => ?_)
  replace HX2 := Lib.hid hSwr6
  replace HB := Lib.hid (hWwr6 _ _ HB.out (by omega))
  replace HX0 := Lib.hid (HX0.out.other (hOwr6 _ (by omega)))
  replace HX1 := Lib.hid (HX1.out.other (hOwr6 _ (by omega)))
  replace HB2 := Lib.hid (HB2.out.other (hOwr6 _ (by omega)))
  replace HB4 := Lib.hid (HB4.out.other (hOwr6 _ (by omega)))
  clear hSwr6 hOwr6 hWwr6
  go_wp2
  refine bodyPost_ret (results_ct_slot (p := 4) (q := 5) (by rfl) _ _ (N + 1 + 1) 24 (PB 0) 32 _ (.bool false) (by rfl) HX2.out (PB_rw 0) Try.underlying24 rfl (by kernel_rfl) rfl) rfl ⟨by first | rfl | (rfl), by rw [HN.out]; exact HB.out⟩
set_option maxRecDepth 100000 in
set_option maxHeartbeats 1000000 in
theorem Times_ok (k : Nat) (hk : k < 115792089237316195423570985008687907853269984665640564039457584007913129639936) (p : Pt) (w : World) :
    Calls Try.prog 17 #[.agg (PB k), .agg (PB (pN p))] w fun e w' => e = .returned (.tuple #[.agg (PB (pN (ptimes k p))), .bool true]) ∧ Below w.heap.size w w' := by
  obtain ⟨tt, htt⟩ : ∃ q, runQ dblQ (fun e => addQ e (p.x, p.y, 1, p.x * p.y)) k 256 (0, 1, 1, 0) = q := ⟨_, rfl⟩
  have HRP := Lib.hid (show RepQ tt (ptimes k p) from htt ▸ timesC_rep (flatQ p) hk)
  have HTT := Lib.hid htt
  have HK := Lib.hid hk
  clear htt hk
  have HQ1 := Lib.hid (fun w => read_ok p w)
  have HQ2 := Lib.hid (fun w => timesQ_any p.x p.y 1 (p.x * p.y) k tt HK.out HTT.out w)
  obtain ⟨c3, hc3⟩ : ∃ zq : Fp, zq = tt.1 * finv tt.2.2.1 := ⟨_, rfl⟩
  have HE3 := Lib.hid hc3
  clear hc3
  obtain ⟨c4, hc4⟩ : ∃ zq : Fp, zq = tt.2.1 * finv tt.2.2.1 := ⟨_, rfl⟩
  have HE4 := Lib.hid hc4
  clear hc4
  have HQ5 := Lib.hid (fun w => point_any tt.1 tt.2.1 tt.2.2.1 tt.2.2.2 w)
  rw [← HE3.out, ← HE4.out] at HQ5
  have hz0 := zPt
  have hz1 := zFr
  have hz2 := zSc
  go_enter Try.func17, Try.ntmps17
  go_upto_region 1 with fail
  generalize hW1 : World.alloc _ _ = W1
  obtain ⟨N, hN⟩ : ∃ n, w.heap.size = n := ⟨_, rfl⟩
  have HX0 := Lib.hid (show CT W1 N 34 (PB k) by subst hW1; rw [← hN]; exact (allocs3_at w _ _ _).1)
  have HX1 := Lib.hid (show CT W1 (N + 1) 24 (PB (pN p)) by subst hW1; rw [← hN]; exact (allocs3_at w _ _ _).2.1)
  have HX2 := Lib.hid (show CT W1 (N + 1 + 1) 24 (PB 0) by subst hW1; rw [← hN]; exact (allocs3_at w _ _ _).2.2)
  have HB := Lib.hid (show Below N w W1 by subst hW1; rw [← hN]; exact allocs3_below w _ _ _)
  have HN := Lib.hid hN
  rw [hN]
  clear hW1 hN
  refine wp_region_seq 5 ?_
  simp only [List.take_succ_cons, List.take_zero, List.drop_succ_cons, List.drop_zero]
  refine upW_val (by rfl) (by rfl) (by rfl) (fun K hK => quiet_load_ct _ _ rfl (N + 1) rfl 24 (PB (pN p)) 32 (PB_rw (pN p)) _ HX1.out Try.underlying24 rfl (by kernel_rfl) (hK _ ?_))
  simp only [Act.put, List.setIfInBounds_toArray, List.set]
  refine upW_call (by rfl) (by rfl) (.tuple #[.agg (FR p.x p.y 1 (p.x * p.y)), .bool true]) _ rfl (by simp) (fun p => ?_) ?_
  · go_big_quiet_op
    exact ⟨_, fun q => Calls.ext_of (HQ1.out q.x), rfl⟩
  simp only [Act.put, List.setIfInBounds_toArray, List.set]
  refine upW_val (by rfl) (by rfl) (by rfl) ?_
  intro K hK
  go_big_quiet_op
  refine hK _ ?_
  refine upW_late (by rfl) (.agg (FR p.x p.y 1 (p.x * p.y))) (fun _ => rfl) ?_
  simp only [Act.put, List.setIfInBounds_toArray, List.set]
  refine upW_late (by rfl) (.bool true) (fun _ => rfl) ?_
  simp only [Act.put, List.setIfInBounds_toArray, List.set]
  refine upW_nil (fun wr1 hbr1 => ?_)
  replace HX0 := Lib.hid (HX0.out.ext hbr1)
  replace HX1 := Lib.hid (HX1.out.ext hbr1)
  replace HX2 := Lib.hid (HX2.out.ext hbr1)
  replace HB := Lib.hid (HB.out.trans (hbr1.mono (show N ≤ _ by have := HB.out.size; have := HN.out; omega)))
  clear hbr1
  refine wpList_new1 rfl 76 rfl (FR 0 0 0 0) zFr rfl _ _ rfl rfl (FR p.x p.y 1 (p.x * p.y)) 128 (FR_rw p.x p.y 1 (p.x * p.y)) (FR_rw 0 0 0 0).size (by kernel_rfl) rfl rfl (fun B2 wr2 hB2 hbr2 hCB2 => ?_)
  have HB2 := Lib.hid hCB2
  have hlB2X0 : N < B2 := by rw [← hB2]; exact HX0.out.lt
  have hlB2X1 : (N + 1) < B2 := by rw [← hB2]; exact HX1.out.lt
  have hlB2X2 : (N + 1 + 1) < B2 := by rw [← hB2]; exact HX2.out.lt
  have hNB2 : N ≤ B2 := by rw [← hB2]; have := HB.out.size; have := HN.out; omega
  clear hB2 hCB2
  simp only [Act.put, List.setIfInBounds_toArray, List.set]
  replace HX0 := Lib.hid (HX0.out.ext hbr2)
  replace HX1 := Lib.hid (HX1.out.ext hbr2)
  replace HX2 := Lib.hid (HX2.out.ext hbr2)
  replace HB := Lib.hid (HB.out.trans (hbr2.mono (show N ≤ _ by have := HB.out.size; have := HN.out; omega)))
  clear hbr2
  go_upto_region 4 with fail
  refine wp_region_seq 4 ?_
  simp only [List.take_succ_cons, List.take_zero, List.drop_succ_cons, List.drop_zero]
  refine upW_val (by rfl) (by rfl) (by rfl) (fun K hK => quiet_load_ct _ _ rfl B2 rfl 76 (FR p.x p.y 1 (p.x * p.y)) 128 (FR_rw p.x p.y 1 (p.x * p.y)) _ HB2.out Try.underlying76 rfl (by kernel_rfl) (hK _ ?_))
  simp only [Act.put, List.setIfInBounds_toArray, List.set]
  refine upW_val (by rfl) (by rfl) (by rfl) (fun K hK => quiet_load_ct _ _ rfl N rfl 34 (PB k) 32 (PB_rw k) _ HX0.out Try.underlying34 rfl (by kernel_rfl) (hK _ ?_))
  simp only [Act.put, List.setIfInBounds_toArray, List.set]
  refine upW_call (by rfl) (by rfl) (.agg (FR tt.1 tt.2.1 tt.2.2.1 tt.2.2.2)) _ rfl (by simp) (fun p => ?_) ?_
  · go_big_quiet_op
    exact ⟨_, fun q => Calls.ext_of (HQ2.out q.x), rfl⟩
  simp only [Act.put, List.setIfInBounds_toArray, List.set]
  refine upW_call (by rfl) (by rfl) (.agg (PB (encXY c3 c4))) _ rfl (by simp) (fun p => ?_) ?_
  · go_big_quiet_op
    exact ⟨_, fun q => Calls.ext_of (HQ5.out q.x), rfl⟩
  simp only [Act.put, List.setIfInBounds_toArray, List.set]
  refine upW_nil (fun wr3 hbr3 => ?_)
  replace HX0 := Lib.hid (HX0.out.ext hbr3)
  replace HX1 := Lib.hid (HX1.out.ext hbr3)
  replace HX2 := Lib.hid (HX2.out.ext hbr3)
  replace HB2 := Lib.hid (HB2.out.ext hbr3)
  replace HB := Lib.hid (HB.out.trans (hbr3.mono (show N ≤ _ by have := HB.out.size; have := HN.out; omega)))
  clear hbr3
  refine wpList_store_ct rfl 24 _ _ rfl (N + 1 + 1) (PB (encXY c3 c4)) rfl rfl 24 (PB 0) 32 HX2.out (by kernel_rfl) (PB_rw 0) (PB_rw (encXY c3 c4)) rfl (fun wr4 hSwr4 hOwr4 hWwr4 => ?_)
  replace HX2 := Lib.hid hSwr4
  replace HB := Lib.hid (hWwr4 _ _ HB.out (by omega))
  replace HX0 := Lib.hid (HX0.out.other (hOwr4 _ (by omega)))
  replace HX1 := Lib.hid (HX1.out.other (hOwr4 _ (by omega)))
  replace HB2 := Lib.hid (HB2.out.other (hOwr4 _ (by omega)))
  clear hSwr4 hOwr4 hWwr4
  go_wp2
  refine bodyPost_ret (results_ct_slot (p := 4) (q := 5) (by rfl) _ _ (N + 1 + 1) 24 (PB (encXY c3 c4)) 32 _ (.bool true) (by rfl) HX2.out (PB_rw (encXY c3 c4)) Try.underlying24 rfl (by kernel_rfl) rfl) rfl ⟨congrArg (fun k => Ending.returned (.tuple #[.agg (PB k), .bool true])) (by simp only [HE3.out, HE4.out]; exact repQ_point HRP.out), by rw [HN.out]; exact HB.out⟩
set_option maxRecDepth 100000 in
set_option maxHeartbeats 1000000 in
theorem Times_no (k : Nat) (hk : k < 115792089237316195423570985008687907853269984665640564039457584007913129639936) (n : Nat) (hn : n < 115792089237316195423570985008687907853269984665640564039457584007913129639936) (gn : ∀ p : Pt, pN p ≠ n) (w : World) :
    Calls Try.prog 17 #[.agg (PB k), .agg (PB n)] w fun e w' => e = .returned (.tuple #[.agg (PB 0), .bool false]) ∧ Below w.heap.size w w' := by
  clear hk
  have HLn := Lib.hid hn
  have HNn := Lib.hid gn
  clear hn gn
  have HQ1 := Lib.hid (fun w => read_no n HLn.out HNn.out w)
  have hz0 := zPt
  have hz1 := zFr
  have hz2 := zSc
  go_enter Try.func17, Try.ntmps17
  go_upto_region 1 with fail
  generalize hW1 : World.alloc _ _ = W1
  obtain ⟨N, hN⟩ : ∃ n, w.heap.size = n := ⟨_, rfl⟩
  have HX0 := Lib.hid (show CT W1 N 34 (PB k) by subst hW1; rw [← hN]; exact (allocs3_at w _ _ _).1)
  have HX1 := Lib.hid (show CT W1 (N + 1) 24 (PB n) by subst hW1; rw [← hN]; exact (allocs3_at w _ _ _).2.1)
  have HX2 := Lib.hid (show CT W1 (N + 1 + 1) 24 (PB 0) by subst hW1; rw [← hN]; exact (allocs3_at w _ _ _).2.2)
  have HB := Lib.hid (show Below N w W1 by subst hW1; rw [← hN]; exact allocs3_below w _ _ _)
  have HN := Lib.hid hN
  rw [hN]
  clear hW1 hN
  refine wp_region_seq 5 ?_
  simp only [List.take_succ_cons, List.take_zero, List.drop_succ_cons, List.drop_zero]
  refine upW_val (by rfl) (by rfl) (by rfl) (fun K hK => quiet_load_ct _ _ rfl (N + 1) rfl 24 (PB n) 32 (PB_rw n) _ HX1.out Try.underlying24 rfl (by kernel_rfl) (hK _ ?_))
  simp only [Act.put, List.setIfInBounds_toArray, List.set]
  refine upW_call (by rfl) (by rfl) (.tuple #[.agg (FR 0 0 0 0), .bool false]) _ rfl (by simp) (fun p => ?_) ?_
  · go_big_quiet_op
    exact ⟨_, fun q => Calls.ext_of (HQ1.out q.x), rfl⟩
  simp only [Act.put, List.setIfInBounds_toArray, List.set]
  refine upW_val (by rfl) (by rfl) (by rfl) ?_
  intro K hK
  go_big_quiet_op
  refine hK _ ?_
  refine upW_late (by rfl) (.agg (FR 0 0 0 0)) (fun _ => rfl) ?_
  simp only [Act.put, List.setIfInBounds_toArray, List.set]
  refine upW_late (by rfl) (.bool false) (fun _ => rfl) ?_
  simp only [Act.put, List.setIfInBounds_toArray, List.set]
  refine upW_nil (fun wr1 hbr1 => ?_)
  replace HX0 := Lib.hid (HX0.out.ext hbr1)
  replace HX1 := Lib.hid (HX1.out.ext hbr1)
  replace HX2 := Lib.hid (HX2.out.ext hbr1)
  replace HB := Lib.hid (HB.out.trans (hbr1.mono (show N ≤ _ by have := HB.out.size; have := HN.out; omega)))
  clear hbr1
  refine wpList_new1 rfl 76 rfl (FR 0 0 0 0) zFr rfl _ _ rfl rfl (FR 0 0 0 0) 128 (FR_rw 0 0 0 0) (FR_rw 0 0 0 0).size (by kernel_rfl) rfl rfl (fun B2 wr2 hB2 hbr2 hCB2 => ?_)
  have HB2 := Lib.hid hCB2
  have hlB2X0 : N < B2 := by rw [← hB2]; exact HX0.out.lt
  have hlB2X1 : (N + 1) < B2 := by rw [← hB2]; exact HX1.out.lt
  have hlB2X2 : (N + 1 + 1) < B2 := by rw [← hB2]; exact HX2.out.lt
  have hNB2 : N ≤ B2 := by rw [← hB2]; have := HB.out.size; have := HN.out; omega
  clear hB2 hCB2
  simp only [Act.put, List.setIfInBounds_toArray, List.set]
  replace HX0 := Lib.hid (HX0.out.ext hbr2)
  replace HX1 := Lib.hid (HX1.out.ext hbr2)
  replace HX2 := Lib.hid (HX2.out.ext hbr2)
  replace HB := Lib.hid (HB.out.trans (hbr2.mono (show N ≤ _ by have := HB.out.size; have := HN.out; omega)))
  clear hbr2
  go_upto_region 3 with fail
  refine wp_region_seq 1 ?_
  simp only [List.take_succ_cons, List.take_zero, List.drop_succ_cons, List.drop_zero]
  refine upW_late (by rfl) (.agg (PB 0)) (fun w => run_built _ _ _ _ rfl _ (by kernel_rfl) w) ?_
  simp only [Act.put, List.setIfInBounds_toArray, List.set]
  refine upW_nil (fun wr3 hbr3 => ?_)
  replace HX0 := Lib.hid (HX0.out.ext hbr3)
  replace HX1 := Lib.hid (HX1.out.ext hbr3)
  replace HX2 := Lib.hid (HX2.out.ext hbr3)
  replace HB2 := Lib.hid (HB2.out.ext hbr3)
  replace HB := Lib.hid (HB.out.trans (hbr3.mono (show N ≤ _ by have := HB.out.size; have := HN.out; omega)))
  clear hbr3
  refine wpList_store_ct rfl 24 _ _ rfl (N + 1 + 1) (PB 0) rfl rfl 24 (PB 0) 32 HX2.out (by kernel_rfl) (PB_rw 0) (PB_rw 0) rfl (fun wr4 hSwr4 hOwr4 hWwr4 => ?_)
  replace HX2 := Lib.hid hSwr4
  replace HB := Lib.hid (hWwr4 _ _ HB.out (by omega))
  replace HX0 := Lib.hid (HX0.out.other (hOwr4 _ (by omega)))
  replace HX1 := Lib.hid (HX1.out.other (hOwr4 _ (by omega)))
  replace HB2 := Lib.hid (HB2.out.other (hOwr4 _ (by omega)))
  clear hSwr4 hOwr4 hWwr4
  go_wp2
  refine bodyPost_ret (results_ct_slot (p := 4) (q := 5) (by rfl) _ _ (N + 1 + 1) 24 (PB 0) 32 _ (.bool false) (by rfl) HX2.out (PB_rw 0) Try.underlying24 rfl (by kernel_rfl) rfl) rfl ⟨by first | rfl | (rfl), by rw [HN.out]; exact HB.out⟩
set_option maxRecDepth 100000 in
set_option maxHeartbeats 1000000 in
theorem Of_no {A : Array Value} {a : Fp} (hia : IsN A a) {B : Array Value} {b : Fp} (hib : IsN B b) (hon : decide (b * b - a * a = 1 + cD * (a * a * (b * b))) = false) (w : World) :
    Calls Try.prog 22 #[.agg A, .agg B] w fun e w' => e = .returned (.tuple #[.agg (PB 0), .bool false]) ∧ Below w.heap.size w w' := by
  have HIa := Lib.hid hia
  have HRa := Lib.hid hia.rw
  clear hia
  have HIb := Lib.hid hib
  have HRb := Lib.hid hib.rw
  clear hib
  have HON := Lib.hid hon
  clear hon
  have HQ1 := Lib.hid (fun w => onCurve_any HIa.out HIb.out false HON.out w)
  have hz0 := zPt
  have hz1 := zNu
  go_enter Try.func22, Try.ntmps22
  go_upto_region 1 with fail
  generalize hW1 : World.alloc _ _ = W1
  obtain ⟨N, hN⟩ : ∃ n, w.heap.size = n := ⟨_, rfl⟩
  have HX0 := Lib.hid (show CT W1 N 26 A by subst hW1; rw [← hN]; exact (allocs3_at w _ _ _).1)
  have HX1 := Lib.hid (show CT W1 (N + 1) 26 B by subst hW1; rw [← hN]; exact (allocs3_at w _ _ _).2.1)
  have HX2 := Lib.hid (show CT W1 (N + 1 + 1) 24 (PB 0) by subst hW1; rw [← hN]; exact (allocs3_at w _ _ _).2.2)
  have HB := Lib.hid (show Below N w W1 by subst hW1; rw [← hN]; exact allocs3_below w _ _ _)
  have HN := Lib.hid hN
  rw [hN]
  clear hW1 hN
  refine wp_region_seq 3 ?_
  simp only [List.take_succ_cons, List.take_zero, List.drop_succ_cons, List.drop_zero]
  refine upW_val (by rfl) (by rfl) (by rfl) (fun K hK => quiet_load_ct _ _ rfl N rfl 26 A 32 HRa.out _ HX0.out Try.underlying26 rfl (by kernel_rfl) (hK _ ?_))
  simp only [Act.put, List.setIfInBounds_toArray, List.set]
  refine upW_val (by rfl) (by rfl) (by rfl) (fun K hK => quiet_load_ct _ _ rfl (N + 1) rfl 26 B 32 HRb.out _ HX1.out Try.underlying26 rfl (by kernel_rfl) (hK _ ?_))
  simp only [Act.put, List.setIfInBounds_toArray, List.set]
  refine upW_call (by rfl) (by rfl) (.bool false) _ rfl (by simp) (fun p => ?_) ?_
  · go_big_quiet_op
    exact ⟨_, fun q => Calls.ext_of (HQ1.out q.x), rfl⟩
  simp only [Act.put, List.setIfInBounds_toArray, List.set]
  refine upW_nil (fun wr1 hbr1 => ?_)
  replace HX0 := Lib.hid (HX0.out.ext hbr1)
  replace HX1 := Lib.hid (HX1.out.ext hbr1)
  replace HX2 := Lib.hid (HX2.out.ext hbr1)
  replace HB := Lib.hid (HB.out.trans (hbr1.mono (show N ≤ _ by have := HB.out.size; have := HN.out; omega)))
  clear hbr1
  go_upto_region 2 with fail
  refine wp_region_seq 1 ?_
  simp only [List.take_succ_cons, List.take_zero, List.drop_succ_cons, List.drop_zero]
  refine upW_late (by rfl) (.agg (PB 0)) (fun w => run_built _ _ _ _ rfl _ (by kernel_rfl) w) ?_
  simp only [Act.put, List.setIfInBounds_toArray, List.set]
  refine upW_nil (fun wr2 hbr2 => ?_)
  replace HX0 := Lib.hid (HX0.out.ext hbr2)
  replace HX1 := Lib.hid (HX1.out.ext hbr2)
  replace HX2 := Lib.hid (HX2.out.ext hbr2)
  replace HB := Lib.hid (HB.out.trans (hbr2.mono (show N ≤ _ by have := HB.out.size; have := HN.out; omega)))
  clear hbr2
  refine wpList_store_ct rfl 24 _ _ rfl (N + 1 + 1) (PB 0) rfl rfl 24 (PB 0) 32 HX2.out (by kernel_rfl) (PB_rw 0) (PB_rw 0) rfl (fun wr3 hSwr3 hOwr3 hWwr3 => ?_)
  replace HX2 := Lib.hid hSwr3
  replace HB := Lib.hid (hWwr3 _ _ HB.out (by omega))
  replace HX0 := Lib.hid (HX0.out.other (hOwr3 _ (by omega)))
  replace HX1 := Lib.hid (HX1.out.other (hOwr3 _ (by omega)))
  clear hSwr3 hOwr3 hWwr3
  go_wp2
  refine bodyPost_ret (results_ct_slot (p := 4) (q := 5) (by rfl) _ _ (N + 1 + 1) 24 (PB 0) 32 _ (.bool false) (by rfl) HX2.out (PB_rw 0) Try.underlying24 rfl (by kernel_rfl) rfl) rfl ⟨by first | rfl | (rfl), by rw [HN.out]; exact HB.out⟩
set_option maxRecDepth 100000 in
set_option maxHeartbeats 1000000 in
theorem Of_ok {A : Array Value} {a : Fp} (hia : IsN A a) {B : Array Value} {b : Fp} (hib : IsN B b) (hon : decide (b * b - a * a = 1 + cD * (a * a * (b * b))) = true) (w : World) :
    Calls Try.prog 22 #[.agg A, .agg B] w fun e w' => e = .returned (.tuple #[.agg (PB (encXY a b)), .bool true]) ∧ Below w.heap.size w w' := by
  have HIa := Lib.hid hia
  have HRa := Lib.hid hia.rw
  clear hia
  have HIb := Lib.hid hib
  have HRb := Lib.hid hib.rw
  clear hib
  have HON := Lib.hid hon
  clear hon
  have HQ1 := Lib.hid (fun w => onCurve_any HIa.out HIb.out true HON.out w)
  have HQ2 := Lib.hid (fun w => encode_any HIa.out HIb.out w)
  have hz0 := zPt
  have hz1 := zNu
  go_enter Try.func22, Try.ntmps22
  go_upto_region 1 with fail
  generalize hW1 : World.alloc _ _ = W1
  obtain ⟨N, hN⟩ : ∃ n, w.heap.size = n := ⟨_, rfl⟩
  have HX0 := Lib.hid (show CT W1 N 26 A by subst hW1; rw [← hN]; exact (allocs3_at w _ _ _).1)
  have HX1 := Lib.hid (show CT W1 (N + 1) 26 B by subst hW1; rw [← hN]; exact (allocs3_at w _ _ _).2.1)
  have HX2 := Lib.hid (show CT W1 (N + 1 + 1) 24 (PB 0) by subst hW1; rw [← hN]; exact (allocs3_at w _ _ _).2.2)
  have HB := Lib.hid (show Below N w W1 by subst hW1; rw [← hN]; exact allocs3_below w _ _ _)
  have HN := Lib.hid hN
  rw [hN]
  clear hW1 hN
  refine wp_region_seq 3 ?_
  simp only [List.take_succ_cons, List.take_zero, List.drop_succ_cons, List.drop_zero]
  refine upW_val (by rfl) (by rfl) (by rfl) (fun K hK => quiet_load_ct _ _ rfl N rfl 26 A 32 HRa.out _ HX0.out Try.underlying26 rfl (by kernel_rfl) (hK _ ?_))
  simp only [Act.put, List.setIfInBounds_toArray, List.set]
  refine upW_val (by rfl) (by rfl) (by rfl) (fun K hK => quiet_load_ct _ _ rfl (N + 1) rfl 26 B 32 HRb.out _ HX1.out Try.underlying26 rfl (by kernel_rfl) (hK _ ?_))
  simp only [Act.put, List.setIfInBounds_toArray, List.set]
  refine upW_call (by rfl) (by rfl) (.bool true) _ rfl (by simp) (fun p => ?_) ?_
  · go_big_quiet_op
    exact ⟨_, fun q => Calls.ext_of (HQ1.out q.x), rfl⟩
  simp only [Act.put, List.setIfInBounds_toArray, List.set]
  refine upW_nil (fun wr1 hbr1 => ?_)
  replace HX0 := Lib.hid (HX0.out.ext hbr1)
  replace HX1 := Lib.hid (HX1.out.ext hbr1)
  replace HX2 := Lib.hid (HX2.out.ext hbr1)
  replace HB := Lib.hid (HB.out.trans (hbr1.mono (show N ≤ _ by have := HB.out.size; have := HN.out; omega)))
  clear hbr1
  go_upto_region 3 with fail
  refine wp_region_seq 3 ?_
  simp only [List.take_succ_cons, List.take_zero, List.drop_succ_cons, List.drop_zero]
  refine upW_val (by rfl) (by rfl) (by rfl) (fun K hK => quiet_load_ct _ _ rfl N rfl 26 A 32 HRa.out _ HX0.out Try.underlying26 rfl (by kernel_rfl) (hK _ ?_))
  simp only [Act.put, List.setIfInBounds_toArray, List.set]
  refine upW_val (by rfl) (by rfl) (by rfl) (fun K hK => quiet_load_ct _ _ rfl (N + 1) rfl 26 B 32 HRb.out _ HX1.out Try.underlying26 rfl (by kernel_rfl) (hK _ ?_))
  simp only [Act.put, List.setIfInBounds_toArray, List.set]
  refine upW_call (by rfl) (by rfl) (.agg (PB (encXY a b))) _ rfl (by simp) (fun p => ?_) ?_
  · go_big_quiet_op
    exact ⟨_, fun q => Calls.ext_of (HQ2.out q.x), rfl⟩
  simp only [Act.put, List.setIfInBounds_toArray, List.set]
  refine upW_nil (fun wr2 hbr2 => ?_)
  replace HX0 := Lib.hid (HX0.out.ext hbr2)
  replace HX1 := Lib.hid (HX1.out.ext hbr2)
  replace HX2 := Lib.hid (HX2.out.ext hbr2)
  replace HB := Lib.hid (HB.out.trans (hbr2.mono (show N ≤ _ by have := HB.out.size; have := HN.out; omega)))
  clear hbr2
  refine wpList_store_ct rfl 24 _ _ rfl (N + 1 + 1) (PB (encXY a b)) rfl rfl 24 (PB 0) 32 HX2.out (by kernel_rfl) (PB_rw 0) (PB_rw (encXY a b)) rfl (fun wr3 hSwr3 hOwr3 hWwr3 => ?_)
  replace HX2 := Lib.hid hSwr3
  replace HB := Lib.hid (hWwr3 _ _ HB.out (by omega))
  replace HX0 := Lib.hid (HX0.out.other (hOwr3 _ (by omega)))
  replace HX1 := Lib.hid (HX1.out.other (hOwr3 _ (by omega)))
  clear hSwr3 hOwr3 hWwr3
  go_wp2
  refine bodyPost_ret (results_ct_slot (p := 4) (q := 5) (by rfl) _ _ (N + 1 + 1) 24 (PB (encXY a b)) 32 _ (.bool true) (by rfl) HX2.out (PB_rw (encXY a b)) Try.underlying24 rfl (by kernel_rfl) rfl) rfl ⟨by first | rfl | (rfl), by rw [HN.out]; exact HB.out⟩
end Go.Proofs.Ytfmclkmmkceldaa
