/-
  CurveSays: any 32 bytes, any two numbers: whether they are a point, its numbers, what is added, turned, taken so often, is as the document says.
  Conditions: none.
-/
import Derived.Test.YtfmclkmmkceldaaCvA
import Derived.Test.YtfmclkmmkceldaaFdO
import Derived.Test.YtfmclkmmkceldaaCvR
namespace Go.Proofs.Ytfmclkmmkceldaa
open Go.RowKit

set_option linter.unusedSimpArgs false
set_option linter.unusedVariables false
open Go.ChangeShapes Go.WideShapes Go.ChangeAt
/-- The point that a number says. -/
noncomputable def dec (n : Nat) : Option Pt := open Classical in if h : ∃ p : Pt, pN p = n then some (Classical.choose h) else none
theorem pN_inj {p q : Pt} (h : pN p = pN q) : p = q := by
  have h1 := congrArg (fun n => n % 57896044618658097711785492504343953926634992332820282019728792003956564819968) h
  simp only [pN_low] at h1
  have h2 := pN_top p
  rw [h, pN_top q] at h2
  refine same_par (Fin.ext h1) ?_
  have h3 : (q.x.val % 2 = 1) = (p.x.val % 2 = 1) := by simpa using h2
  have h4 : q.x.val % 2 = 1 ↔ p.x.val % 2 = 1 := h3 ▸ Iff.rfl
  omega
theorem dec_pN (p : Pt) : dec (pN p) = some p := by
  have h : ∃ q : Pt, pN q = pN p := ⟨p, rfl⟩
  unfold dec
  rw [dif_pos h]
  exact congrArg some (pN_inj (Classical.choose_spec h))
theorem dec_no {n : Nat} (h : ∀ p : Pt, pN p ≠ n) : dec n = none := by
  unfold dec
  rw [dif_neg (fun ⟨p, hp⟩ => h p hp)]
noncomputable def gk (n : Nat) : Bool := (dec n).isSome
noncomputable def gx (n : Nat) : Fp := match dec n with | some p => p.x | none => 0
noncomputable def gy (n : Nat) : Fp := match dec n with | some p => p.y | none => 0
noncomputable def nA (n m : Nat) : Nat := match dec n, dec m with | some p, some q => pN (padd p q) | _, _ => 0
noncomputable def kA (n m : Nat) : Bool := match dec n, dec m with | some _, some _ => true | _, _ => false
noncomputable def nG (n : Nat) : Nat := match dec n with | some p => pN (pneg p) | none => 0
noncomputable def nT (k n : Nat) : Nat := match dec n with | some p => pN (ptimes k p) | none => 0
theorem nA_lt (n m : Nat) : nA n m < 115792089237316195423570985008687907853269984665640564039457584007913129639936 := by
  unfold nA
  split
  · exact pN_lt _
  · decide
theorem nG_lt (n : Nat) : nG n < 115792089237316195423570985008687907853269984665640564039457584007913129639936 := by
  unfold nG
  split
  · exact pN_lt _
  · decide
theorem nT_lt (k n : Nat) : nT k n < 115792089237316195423570985008687907853269984665640564039457584007913129639936 := by
  unfold nT
  split
  · exact pN_lt _
  · decide
theorem XY_f (n : Nat) (hn : n < 115792089237316195423570985008687907853269984665640564039457584007913129639936) (w : World) : Calls Try.prog 18 #[.agg (PB n)] w fun e w' => e = .returned (.tuple #[.agg (NB (gx n)), .agg (NB (gy n)), .bool (gk n)]) ∧ Below w.heap.size w w' := by
  by_cases h : ∃ p : Pt, pN p = n
  · obtain ⟨p, rfl⟩ := h
    have h := XY_ok p w
    simp only [gk, gx, gy, nG, nT, dec_pN, Option.isSome_some]
    exact h
  · have hno : ∀ p : Pt, pN p ≠ n := fun p hp => h ⟨p, hp⟩
    have h := XY_no n hn hno w
    simp only [gk, gx, gy, nG, nT, dec_no hno, Option.isSome_none]
    exact h
theorem XYD_f (n : Nat) (hn : n < 115792089237316195423570985008687907853269984665640564039457584007913129639936) (w : World) : Calls Try.prog 25 #[.agg (PB n)] w fun e w' => e = .returned (.tuple #[.agg (NB (gx n)), .agg (NB (gy n)), .bool (gk n)]) ∧ Below w.heap.size w w' := by
  by_cases h : ∃ p : Pt, pN p = n
  · obtain ⟨p, rfl⟩ := h
    have h := XYD_ok p w
    simp only [gk, gx, gy, nG, nT, dec_pN, Option.isSome_some]
    exact h
  · have hno : ∀ p : Pt, pN p ≠ n := fun p hp => h ⟨p, hp⟩
    have h := XYD_no n hn hno w
    simp only [gk, gx, gy, nG, nT, dec_no hno, Option.isSome_none]
    exact h
theorem Good_f (n : Nat) (hn : n < 115792089237316195423570985008687907853269984665640564039457584007913129639936) (w : World) : Calls Try.prog 23 #[.agg (PB n)] w fun e w' => e = .returned (.bool (gk n)) ∧ Below w.heap.size w w' := by
  by_cases h : ∃ p : Pt, pN p = n
  · obtain ⟨p, rfl⟩ := h
    have h := Good_ok p w
    simp only [gk, gx, gy, nG, nT, dec_pN, Option.isSome_some]
    exact h
  · have hno : ∀ p : Pt, pN p ≠ n := fun p hp => h ⟨p, hp⟩
    have h := Good_no n hn hno w
    simp only [gk, gx, gy, nG, nT, dec_no hno, Option.isSome_none]
    exact h
theorem GoodD_f (n : Nat) (hn : n < 115792089237316195423570985008687907853269984665640564039457584007913129639936) (w : World) : Calls Try.prog 29 #[.agg (PB n)] w fun e w' => e = .returned (.bool (gk n)) ∧ Below w.heap.size w w' := by
  by_cases h : ∃ p : Pt, pN p = n
  · obtain ⟨p, rfl⟩ := h
    have h := GoodD_ok p w
    simp only [gk, gx, gy, nG, nT, dec_pN, Option.isSome_some]
    exact h
  · have hno : ∀ p : Pt, pN p ≠ n := fun p hp => h ⟨p, hp⟩
    have h := GoodD_no n hn hno w
    simp only [gk, gx, gy, nG, nT, dec_no hno, Option.isSome_none]
    exact h
theorem Neg_f (n : Nat) (hn : n < 115792089237316195423570985008687907853269984665640564039457584007913129639936) (w : World) : Calls Try.prog 16 #[.agg (PB n)] w fun e w' => e = .returned (.tuple #[.agg (PB (nG n)), .bool (gk n)]) ∧ Below w.heap.size w w' := by
  by_cases h : ∃ p : Pt, pN p = n
  · obtain ⟨p, rfl⟩ := h
    have h := Neg_ok p w
    simp only [gk, gx, gy, nG, nT, dec_pN, Option.isSome_some]
    exact h
  · have hno : ∀ p : Pt, pN p ≠ n := fun p hp => h ⟨p, hp⟩
    have h := Neg_no n hn hno w
    simp only [gk, gx, gy, nG, nT, dec_no hno, Option.isSome_none]
    exact h
theorem NegD_f (n : Nat) (hn : n < 115792089237316195423570985008687907853269984665640564039457584007913129639936) (w : World) : Calls Try.prog 27 #[.agg (PB n)] w fun e w' => e = .returned (.tuple #[.agg (PB (nG n)), .bool (gk n)]) ∧ Below w.heap.size w w' := by
  by_cases h : ∃ p : Pt, pN p = n
  · obtain ⟨p, rfl⟩ := h
    have h := NegD_ok p w
    simp only [gk, gx, gy, nG, nT, dec_pN, Option.isSome_some]
    exact h
  · have hno : ∀ p : Pt, pN p ≠ n := fun p hp => h ⟨p, hp⟩
    have h := NegD_no n hn hno w
    simp only [gk, gx, gy, nG, nT, dec_no hno, Option.isSome_none]
    exact h
theorem Times_f (k : Nat) (hk : k < 115792089237316195423570985008687907853269984665640564039457584007913129639936) (n : Nat) (hn : n < 115792089237316195423570985008687907853269984665640564039457584007913129639936) (w : World) : Calls Try.prog 17 #[.agg (PB k), .agg (PB n)] w fun e w' => e = .returned (.tuple #[.agg (PB (nT k n)), .bool (gk n)]) ∧ Below w.heap.size w w' := by
  by_cases h : ∃ p : Pt, pN p = n
  · obtain ⟨p, rfl⟩ := h
    have h := Times_ok k hk p w
    simp only [gk, gx, gy, nG, nT, dec_pN, Option.isSome_some]
    exact h
  · have hno : ∀ p : Pt, pN p ≠ n := fun p hp => h ⟨p, hp⟩
    have h := Times_no k hk n hn hno w
    simp only [gk, gx, gy, nG, nT, dec_no hno, Option.isSome_none]
    exact h
theorem TimesD_f (k : Nat) (hk : k < 115792089237316195423570985008687907853269984665640564039457584007913129639936) (n : Nat) (hn : n < 115792089237316195423570985008687907853269984665640564039457584007913129639936) (w : World) : Calls Try.prog 28 #[.agg (PB k), .agg (PB n)] w fun e w' => e = .returned (.tuple #[.agg (PB (nT k n)), .bool (gk n)]) ∧ Below w.heap.size w w' := by
  by_cases h : ∃ p : Pt, pN p = n
  · obtain ⟨p, rfl⟩ := h
    have h := TimesD_ok k hk p w
    simp only [gk, gx, gy, nG, nT, dec_pN, Option.isSome_some]
    exact h
  · have hno : ∀ p : Pt, pN p ≠ n := fun p hp => h ⟨p, hp⟩
    have h := TimesD_no k hk n hn hno w
    simp only [gk, gx, gy, nG, nT, dec_no hno, Option.isSome_none]
    exact h
theorem Add_f (n m : Nat) (hn : n < 115792089237316195423570985008687907853269984665640564039457584007913129639936) (hm : m < 115792089237316195423570985008687907853269984665640564039457584007913129639936) (w : World) : Calls Try.prog 15 #[.agg (PB n), .agg (PB m)] w fun e w' => e = .returned (.tuple #[.agg (PB (nA n m)), .bool (kA n m)]) ∧ Below w.heap.size w w' := by
  by_cases h : ∃ p : Pt, pN p = n
  · obtain ⟨p, rfl⟩ := h
    by_cases h' : ∃ q : Pt, pN q = m
    · obtain ⟨q, rfl⟩ := h'
      simp only [nA, kA, dec_pN]
      exact Add_ok p q w
    · have hno : ∀ q : Pt, pN q ≠ m := fun q hq => h' ⟨q, hq⟩
      simp only [nA, kA, dec_pN, dec_no hno]
      exact Add_yn p m hm hno w
  · have hno : ∀ p : Pt, pN p ≠ n := fun p hp => h ⟨p, hp⟩
    by_cases h' : ∃ q : Pt, pN q = m
    · obtain ⟨q, rfl⟩ := h'
      simp only [nA, kA, dec_pN, dec_no hno]
      exact Add_ny n hn hno q w
    · have hno' : ∀ q : Pt, pN q ≠ m := fun q hq => h' ⟨q, hq⟩
      simp only [nA, kA, dec_no hno, dec_no hno']
      exact Add_nn n hn hno m hm hno' w
theorem AddD_f (n m : Nat) (hn : n < 115792089237316195423570985008687907853269984665640564039457584007913129639936) (hm : m < 115792089237316195423570985008687907853269984665640564039457584007913129639936) (w : World) : Calls Try.prog 26 #[.agg (PB n), .agg (PB m)] w fun e w' => e = .returned (.tuple #[.agg (PB (nA n m)), .bool (kA n m)]) ∧ Below w.heap.size w w' := by
  by_cases h : ∃ p : Pt, pN p = n
  · obtain ⟨p, rfl⟩ := h
    by_cases h' : ∃ q : Pt, pN q = m
    · obtain ⟨q, rfl⟩ := h'
      simp only [nA, kA, dec_pN]
      exact AddD_ok p q w
    · have hno : ∀ q : Pt, pN q ≠ m := fun q hq => h' ⟨q, hq⟩
      simp only [nA, kA, dec_pN, dec_no hno]
      exact AddD_yn p m hm hno w
  · have hno : ∀ p : Pt, pN p ≠ n := fun p hp => h ⟨p, hp⟩
    by_cases h' : ∃ q : Pt, pN q = m
    · obtain ⟨q, rfl⟩ := h'
      simp only [nA, kA, dec_pN, dec_no hno]
      exact AddD_ny n hn hno q w
    · have hno' : ∀ q : Pt, pN q ≠ m := fun q hq => h' ⟨q, hq⟩
      simp only [nA, kA, dec_no hno, dec_no hno']
      exact AddD_nn n hn hno m hm hno' w
set_option maxRecDepth 100000 in
set_option maxHeartbeats 1000000 in
theorem curveSays_nat (n : Nat) (hn : n < 115792089237316195423570985008687907853269984665640564039457584007913129639936) (m : Nat) (hm : m < 115792089237316195423570985008687907853269984665640564039457584007913129639936) (k : Nat) (hk : k < 115792089237316195423570985008687907853269984665640564039457584007913129639936) (w : World) :
    Calls Try.prog 4 #[.agg (PB n), .agg (PB m), .agg (PB k)] w fun e w' => e = .returned (.bool true) ∧ Below w.heap.size w w' := by
  have HLn := Lib.hid hn
  clear hn
  have HLm := Lib.hid hm
  clear hm
  have HLk := Lib.hid hk
  clear hk
  have HQ1 := Lib.hid (fun w => XY_f n HLn.out w)
  have HQ2 := Lib.hid (fun w => XYD_f n HLn.out w)
  have HQ3 := Lib.hid (fun w => Add_f n m HLn.out HLm.out w)
  have HQ4 := Lib.hid (fun w => AddD_f n m HLn.out HLm.out w)
  have HQ5 := Lib.hid (fun w => Neg_f n HLn.out w)
  have HQ6 := Lib.hid (fun w => NegD_f n HLn.out w)
  have HQ7 := Lib.hid (fun w => Times_f k HLk.out n HLn.out w)
  have HQ8 := Lib.hid (fun w => TimesD_f k HLk.out n HLn.out w)
  have HQ9 := Lib.hid (fun w => Good_f n HLn.out w)
  have HQ10 := Lib.hid (fun w => GoodD_f n HLn.out w)
  go_enter Try.func4, Try.ntmps4
  go_upto_region 1 with fail
  generalize hW1 : World.alloc _ _ = W1
  obtain ⟨N, hN⟩ : ∃ n, w.heap.size = n := ⟨_, rfl⟩
  have HX0 := Lib.hid (show CT W1 N 23 (PB n) by subst hW1; rw [← hN]; exact (allocs3_at w _ _ _).1)
  have HX1 := Lib.hid (show CT W1 (N + 1) 23 (PB m) by subst hW1; rw [← hN]; exact (allocs3_at w _ _ _).2.1)
  have HX2 := Lib.hid (show CT W1 (N + 1 + 1) 23 (PB k) by subst hW1; rw [← hN]; exact (allocs3_at w _ _ _).2.2)
  have HB := Lib.hid (show Below N w W1 by subst hW1; rw [← hN]; exact allocs3_below w _ _ _)
  have HN := Lib.hid hN
  rw [hN]
  clear hW1 hN
  refine wp_region_seq 1 ?_
  simp only [List.take_succ_cons, List.take_zero, List.drop_succ_cons, List.drop_zero]
  refine upW_call (by rfl) (by rfl) (.bool true) _ rfl (by simp) (fun p => ?_) ?_
  · go_big_quiet_op
    exact ⟨_, fun q => Calls.ext_of (awake9_any q.x), rfl⟩
  simp only [Act.put, List.setIfInBounds_toArray, List.set]
  refine upW_nil (fun wr1 hbr1 => ?_)
  replace HX0 := Lib.hid (HX0.out.ext hbr1)
  replace HX1 := Lib.hid (HX1.out.ext hbr1)
  replace HX2 := Lib.hid (HX2.out.ext hbr1)
  replace HB := Lib.hid (HB.out.trans (hbr1.mono (show N ≤ _ by have := HB.out.size; have := HN.out; omega)))
  clear hbr1
  go_upto_region 3 with fail
  refine wp_region_whole [0, 1] [⟨2, _, 24, (PB 0), 7, 4, _, 24, 29, (PB n)⟩, ⟨3, _, 24, (PB 0), 8, 5, _, 24, 30, (PB m)⟩] [5, 4, 3, 2] (by kernel_rfl) (by kernel_rfl) (List.forall_mem_cons.2 ⟨⟨⟨rfl, rfl, rfl, fun a w => alloc_run _ _ zPt a _ rfl w⟩, rfl, rfl, rfl, rfl, (PB_rw n).info (by kernel_rfl), (PB_rw 0).same (PB_rw n), (PB_rw n).one⟩, (List.forall_mem_cons.2 ⟨⟨⟨rfl, rfl, rfl, fun a w => alloc_run _ _ zPt a _ rfl w⟩, rfl, rfl, rfl, rfl, (PB_rw m).info (by kernel_rfl), (PB_rw 0).same (PB_rw m), (PB_rw m).one⟩, (List.forall_mem_nil _)⟩)⟩) rfl ?_
  simp only [List.foldl, List.eraseIdx_cons_succ, List.eraseIdx_cons_zero]
  refine upW_val (by rfl) (by rfl) (by rfl) (fun K hK => quiet_load_ct _ _ rfl N rfl 23 (PB n) 32 (PB_rw n) _ HX0.out Try.underlying23 rfl (by kernel_rfl) (hK _ ?_))
  simp only [Act.put, List.setIfInBounds_toArray, List.set]
  refine upW_val (by rfl) (by rfl) (by rfl) (fun K hK => quiet_load_ct _ _ rfl (N + 1) rfl 23 (PB m) 32 (PB_rw m) _ HX1.out Try.underlying23 rfl (by kernel_rfl) (hK _ ?_))
  simp only [Act.put, List.setIfInBounds_toArray, List.set]
  refine upW_nil ⟨(List.forall_mem_cons.2 ⟨rfl, (List.forall_mem_cons.2 ⟨rfl, (List.forall_mem_nil _)⟩)⟩), fun M wr2 hM hne hbr2 => ?_⟩
  have hm0 := hM _ (List.mem_cons_self ..)
  have hm1 := hM _ (List.mem_cons_of_mem _ (List.mem_cons_self ..))
  have hn2x01 : M 2 ≠ M 3 := hne _ (List.mem_cons_self ..) _ (List.mem_cons_of_mem _ (List.mem_cons_self ..)) (show (2 : Nat) ≠ 3 by decide)
  clear hM hne
  simp only [List.foldr, pS, Act.put, List.setIfInBounds_toArray, List.set]
  obtain ⟨B2x0, hB2x0⟩ : ∃ m, M 2 = m := ⟨_, rfl⟩
  have HB2x0 := Lib.hid (show CT wr2 B2x0 24 (PB n) by rw [← hB2x0]; exact hm0.2)
  have hlB2x0X0 : N < B2x0 := by rw [← hB2x0]; exact Nat.lt_of_lt_of_le HX0.out.lt hm0.1
  have hlB2x0X1 : (N + 1) < B2x0 := by rw [← hB2x0]; exact Nat.lt_of_lt_of_le HX1.out.lt hm0.1
  have hlB2x0X2 : (N + 1 + 1) < B2x0 := by rw [← hB2x0]; exact Nat.lt_of_lt_of_le HX2.out.lt hm0.1
  have hNB2x0 : N ≤ B2x0 := by rw [← hB2x0]; exact Nat.le_trans (by have := HB.out.size; have := HN.out; omega) hm0.1
  obtain ⟨B2x1, hB2x1⟩ : ∃ m, M 3 = m := ⟨_, rfl⟩
  have HB2x1 := Lib.hid (show CT wr2 B2x1 24 (PB m) by rw [← hB2x1]; exact hm1.2)
  have hlB2x1X0 : N < B2x1 := by rw [← hB2x1]; exact Nat.lt_of_lt_of_le HX0.out.lt hm1.1
  have hlB2x1X1 : (N + 1) < B2x1 := by rw [← hB2x1]; exact Nat.lt_of_lt_of_le HX1.out.lt hm1.1
  have hlB2x1X2 : (N + 1 + 1) < B2x1 := by rw [← hB2x1]; exact Nat.lt_of_lt_of_le HX2.out.lt hm1.1
  have hNB2x1 : N ≤ B2x1 := by rw [← hB2x1]; exact Nat.le_trans (by have := HB.out.size; have := HN.out; omega) hm1.1
  rw [hB2x0, hB2x1] at hn2x01
  rw [hB2x0, hB2x1]
  clear hm0 hB2x0 hm1 hB2x1
  replace HX0 := Lib.hid (HX0.out.ext hbr2)
  replace HX1 := Lib.hid (HX1.out.ext hbr2)
  replace HX2 := Lib.hid (HX2.out.ext hbr2)
  replace HB := Lib.hid (HB.out.trans (hbr2.mono (show N ≤ _ by have := HB.out.size; have := HN.out; omega)))
  clear hbr2
  go_upto_region 4 with fail
  refine wp_region_seq 6 ?_
  simp only [List.take_succ_cons, List.take_zero, List.drop_succ_cons, List.drop_zero]
  refine upW_val (by rfl) (by rfl) (by rfl) (fun K hK => quiet_load_ct _ _ rfl B2x0 rfl 24 (PB n) 32 (PB_rw n) _ HB2x0.out Try.underlying24 rfl (by kernel_rfl) (hK _ ?_))
  simp only [Act.put, List.setIfInBounds_toArray, List.set]
  refine upW_call (by rfl) (by rfl) (.tuple #[.agg (NB (gx n)), .agg (NB (gy n)), .bool (gk n)]) _ rfl (by simp) (fun p => ?_) ?_
  · go_big_quiet_op
    exact ⟨_, fun q => Calls.ext_of (HQ1.out q.x), rfl⟩
  simp only [Act.put, List.setIfInBounds_toArray, List.set]
  refine upW_val (by rfl) (by rfl) (by rfl) ?_
  intro K hK
  go_big_quiet_op
  refine hK _ ?_
  refine upW_late (by rfl) (.agg (NB (gx n))) (fun _ => rfl) ?_
  simp only [Act.put, List.setIfInBounds_toArray, List.set]
  refine upW_late (by rfl) (.agg (NB (gy n))) (fun _ => rfl) ?_
  simp only [Act.put, List.setIfInBounds_toArray, List.set]
  refine upW_late (by rfl) (.bool (gk n)) (fun _ => rfl) ?_
  simp only [Act.put, List.setIfInBounds_toArray, List.set]
  refine upW_nil (fun wr3 hbr3 => ?_)
  replace HX0 := Lib.hid (HX0.out.ext hbr3)
  replace HX1 := Lib.hid (HX1.out.ext hbr3)
  replace HX2 := Lib.hid (HX2.out.ext hbr3)
  replace HB2x0 := Lib.hid (HB2x0.out.ext hbr3)
  replace HB2x1 := Lib.hid (HB2x1.out.ext hbr3)
  replace HB := Lib.hid (HB.out.trans (hbr3.mono (show N ≤ _ by have := HB.out.size; have := HN.out; omega)))
  clear hbr3
  refine wpList_new2 rfl rfl 26 rfl rfl (NB 0) zNu rfl rfl _ _ _ _ rfl rfl (NB (gx n)) (NB (gy n)) 32 (NB_rw (gx n)) (NB_rw (gy n)) (NB_rw 0).size (by kernel_rfl) rfl rfl rfl rfl rfl rfl (fun B4a B4b wr4 hB4a hB4b hbr4 hCB4a hCB4b => ?_)
  have HB4a := Lib.hid hCB4a
  have HB4b := Lib.hid hCB4b
  have hlB4aX0 : N < B4a := by rw [← hB4a]; exact HX0.out.lt
  have hlB4bX0 : N < B4b := by omega
  have hlB4aX1 : (N + 1) < B4a := by rw [← hB4a]; exact HX1.out.lt
  have hlB4bX1 : (N + 1) < B4b := by omega
  have hlB4aX2 : (N + 1 + 1) < B4a := by rw [← hB4a]; exact HX2.out.lt
  have hlB4bX2 : (N + 1 + 1) < B4b := by omega
  have hlB4aB2x0 : B2x0 < B4a := by rw [← hB4a]; exact HB2x0.out.lt
  have hlB4bB2x0 : B2x0 < B4b := by omega
  have hlB4aB2x1 : B2x1 < B4a := by rw [← hB4a]; exact HB2x1.out.lt
  have hlB4bB2x1 : B2x1 < B4b := by omega
  have hNB4a : N ≤ B4a := by rw [← hB4a]; have := HB.out.size; have := HN.out; omega
  have hNB4b : N ≤ B4b := by omega
  clear hB4a hCB4a hCB4b
  simp only [Act.put, List.setIfInBounds_toArray, List.set]
  replace HX0 := Lib.hid (HX0.out.ext hbr4)
  replace HX1 := Lib.hid (HX1.out.ext hbr4)
  replace HX2 := Lib.hid (HX2.out.ext hbr4)
  replace HB2x0 := Lib.hid (HB2x0.out.ext hbr4)
  replace HB2x1 := Lib.hid (HB2x1.out.ext hbr4)
  replace HB := Lib.hid (HB.out.trans (hbr4.mono (show N ≤ _ by have := HB.out.size; have := HN.out; omega)))
  clear hbr4
  go_upto_region 5 with fail
  refine wp_region_seq 6 ?_
  simp only [List.take_succ_cons, List.take_zero, List.drop_succ_cons, List.drop_zero]
  refine upW_val (by rfl) (by rfl) (by rfl) (fun K hK => quiet_load_ct _ _ rfl N rfl 23 (PB n) 32 (PB_rw n) _ HX0.out Try.underlying23 rfl (by kernel_rfl) (hK _ ?_))
  simp only [Act.put, List.setIfInBounds_toArray, List.set]
  refine upW_call (by rfl) (by rfl) (.tuple #[.agg (NB (gx n)), .agg (NB (gy n)), .bool (gk n)]) _ rfl (by simp) (fun p => ?_) ?_
  · go_big_quiet_op
    exact ⟨_, fun q => Calls.ext_of (HQ2.out q.x), rfl⟩
  simp only [Act.put, List.setIfInBounds_toArray, List.set]
  refine upW_val (by rfl) (by rfl) (by rfl) ?_
  intro K hK
  go_big_quiet_op
  refine hK _ ?_
  refine upW_late (by rfl) (.agg (NB (gx n))) (fun _ => rfl) ?_
  simp only [Act.put, List.setIfInBounds_toArray, List.set]
  refine upW_late (by rfl) (.agg (NB (gy n))) (fun _ => rfl) ?_
  simp only [Act.put, List.setIfInBounds_toArray, List.set]
  refine upW_late (by rfl) (.bool (gk n)) (fun _ => rfl) ?_
  simp only [Act.put, List.setIfInBounds_toArray, List.set]
  refine upW_nil (fun wr5 hbr5 => ?_)
  replace HX0 := Lib.hid (HX0.out.ext hbr5)
  replace HX1 := Lib.hid (HX1.out.ext hbr5)
  replace HX2 := Lib.hid (HX2.out.ext hbr5)
  replace HB2x0 := Lib.hid (HB2x0.out.ext hbr5)
  replace HB2x1 := Lib.hid (HB2x1.out.ext hbr5)
  replace HB4a := Lib.hid (HB4a.out.ext hbr5)
  replace HB4b := Lib.hid (HB4b.out.ext hbr5)
  replace HB := Lib.hid (HB.out.trans (hbr5.mono (show N ≤ _ by have := HB.out.size; have := HN.out; omega)))
  clear hbr5
  refine wpList_new2 rfl rfl 23 rfl rfl (PB 0) zBy rfl rfl _ _ _ _ rfl rfl (NB (gx n)) (NB (gy n)) 32 (NB_rw (gx n)) (NB_rw (gy n)) (PB_rw 0).size (by kernel_rfl) rfl rfl rfl rfl rfl rfl (fun B6a B6b wr6 hB6a hB6b hbr6 hCB6a hCB6b => ?_)
  have HB6a := Lib.hid hCB6a
  have HB6b := Lib.hid hCB6b
  have hlB6aX0 : N < B6a := by rw [← hB6a]; exact HX0.out.lt
  have hlB6bX0 : N < B6b := by omega
  have hlB6aX1 : (N + 1) < B6a := by rw [← hB6a]; exact HX1.out.lt
  have hlB6bX1 : (N + 1) < B6b := by omega
  have hlB6aX2 : (N + 1 + 1) < B6a := by rw [← hB6a]; exact HX2.out.lt
  have hlB6bX2 : (N + 1 + 1) < B6b := by omega
  have hlB6aB2x0 : B2x0 < B6a := by rw [← hB6a]; exact HB2x0.out.lt
  have hlB6bB2x0 : B2x0 < B6b := by omega
  have hlB6aB2x1 : B2x1 < B6a := by rw [← hB6a]; exact HB2x1.out.lt
  have hlB6bB2x1 : B2x1 < B6b := by omega
  have hlB6aB4a : B4a < B6a := by rw [← hB6a]; exact HB4a.out.lt
  have hlB6bB4a : B4a < B6b := by omega
  have hlB6aB4b : B4b < B6a := by rw [← hB6a]; exact HB4b.out.lt
  have hlB6bB4b : B4b < B6b := by omega
  have hNB6a : N ≤ B6a := by rw [← hB6a]; have := HB.out.size; have := HN.out; omega
  have hNB6b : N ≤ B6b := by omega
  clear hB6a hCB6a hCB6b
  simp only [Act.put, List.setIfInBounds_toArray, List.set]
  replace HX0 := Lib.hid (HX0.out.ext hbr6)
  replace HX1 := Lib.hid (HX1.out.ext hbr6)
  replace HX2 := Lib.hid (HX2.out.ext hbr6)
  replace HB2x0 := Lib.hid (HB2x0.out.ext hbr6)
  replace HB2x1 := Lib.hid (HB2x1.out.ext hbr6)
  replace HB4a := Lib.hid (HB4a.out.ext hbr6)
  replace HB4b := Lib.hid (HB4b.out.ext hbr6)
  replace HB := Lib.hid (HB.out.trans (hbr6.mono (show N ≤ _ by have := HB.out.size; have := HN.out; omega)))
  clear hbr6
  go_upto_region 6 with fail
  refine wp_region_seq 6 ?_
  simp only [List.take_succ_cons, List.take_zero, List.drop_succ_cons, List.drop_zero]
  refine upW_val (by rfl) (by rfl) (by rfl) (fun K hK => quiet_load_ct _ _ rfl B2x0 rfl 24 (PB n) 32 (PB_rw n) _ HB2x0.out Try.underlying24 rfl (by kernel_rfl) (hK _ ?_))
  simp only [Act.put, List.setIfInBounds_toArray, List.set]
  refine upW_val (by rfl) (by rfl) (by rfl) (fun K hK => quiet_load_ct _ _ rfl B2x1 rfl 24 (PB m) 32 (PB_rw m) _ HB2x1.out Try.underlying24 rfl (by kernel_rfl) (hK _ ?_))
  simp only [Act.put, List.setIfInBounds_toArray, List.set]
  refine upW_call (by rfl) (by rfl) (.tuple #[.agg (PB (nA n m)), .bool (kA n m)]) _ rfl (by simp) (fun p => ?_) ?_
  · go_big_quiet_op
    exact ⟨_, fun q => Calls.ext_of (HQ3.out q.x), rfl⟩
  simp only [Act.put, List.setIfInBounds_toArray, List.set]
  refine upW_val (by rfl) (by rfl) (by rfl) ?_
  intro K hK
  go_big_quiet_op
  refine hK _ ?_
  refine upW_late (by rfl) (.agg (PB (nA n m))) (fun _ => rfl) ?_
  simp only [Act.put, List.setIfInBounds_toArray, List.set]
  refine upW_late (by rfl) (.bool (kA n m)) (fun _ => rfl) ?_
  simp only [Act.put, List.setIfInBounds_toArray, List.set]
  refine upW_nil (fun wr7 hbr7 => ?_)
  replace HX0 := Lib.hid (HX0.out.ext hbr7)
  replace HX1 := Lib.hid (HX1.out.ext hbr7)
  replace HX2 := Lib.hid (HX2.out.ext hbr7)
  replace HB2x0 := Lib.hid (HB2x0.out.ext hbr7)
  replace HB2x1 := Lib.hid (HB2x1.out.ext hbr7)
  replace HB4a := Lib.hid (HB4a.out.ext hbr7)
  replace HB4b := Lib.hid (HB4b.out.ext hbr7)
  replace HB6a := Lib.hid (HB6a.out.ext hbr7)
  replace HB6b := Lib.hid (HB6b.out.ext hbr7)
  replace HB := Lib.hid (HB.out.trans (hbr7.mono (show N ≤ _ by have := HB.out.size; have := HN.out; omega)))
  clear hbr7
  refine wpList_new1 rfl 24 rfl (PB 0) zPt rfl _ _ rfl rfl (PB (nA n m)) 32 (PB_rw (nA n m)) (PB_rw 0).size (by kernel_rfl) rfl rfl (fun B8 wr8 hB8 hbr8 hCB8 => ?_)
  have HB8 := Lib.hid hCB8
  have hlB8X0 : N < B8 := by rw [← hB8]; exact HX0.out.lt
  have hlB8X1 : (N + 1) < B8 := by rw [← hB8]; exact HX1.out.lt
  have hlB8X2 : (N + 1 + 1) < B8 := by rw [← hB8]; exact HX2.out.lt
  have hlB8B2x0 : B2x0 < B8 := by rw [← hB8]; exact HB2x0.out.lt
  have hlB8B2x1 : B2x1 < B8 := by rw [← hB8]; exact HB2x1.out.lt
  have hlB8B4a : B4a < B8 := by rw [← hB8]; exact HB4a.out.lt
  have hlB8B4b : B4b < B8 := by rw [← hB8]; exact HB4b.out.lt
  have hlB8B6a : B6a < B8 := by rw [← hB8]; exact HB6a.out.lt
  have hlB8B6b : B6b < B8 := by rw [← hB8]; exact HB6b.out.lt
  have hNB8 : N ≤ B8 := by rw [← hB8]; have := HB.out.size; have := HN.out; omega
  clear hB8 hCB8
  simp only [Act.put, List.setIfInBounds_toArray, List.set]
  replace HX0 := Lib.hid (HX0.out.ext hbr8)
  replace HX1 := Lib.hid (HX1.out.ext hbr8)
  replace HX2 := Lib.hid (HX2.out.ext hbr8)
  replace HB2x0 := Lib.hid (HB2x0.out.ext hbr8)
  replace HB2x1 := Lib.hid (HB2x1.out.ext hbr8)
  replace HB4a := Lib.hid (HB4a.out.ext hbr8)
  replace HB4b := Lib.hid (HB4b.out.ext hbr8)
  replace HB6a := Lib.hid (HB6a.out.ext hbr8)
  replace HB6b := Lib.hid (HB6b.out.ext hbr8)
  replace HB := Lib.hid (HB.out.trans (hbr8.mono (show N ≤ _ by have := HB.out.size; have := HN.out; omega)))
  clear hbr8
  go_upto_region 7 with fail
  refine wp_region_seq 6 ?_
  simp only [List.take_succ_cons, List.take_zero, List.drop_succ_cons, List.drop_zero]
  refine upW_val (by rfl) (by rfl) (by rfl) (fun K hK => quiet_load_ct _ _ rfl N rfl 23 (PB n) 32 (PB_rw n) _ HX0.out Try.underlying23 rfl (by kernel_rfl) (hK _ ?_))
  simp only [Act.put, List.setIfInBounds_toArray, List.set]
  refine upW_val (by rfl) (by rfl) (by rfl) (fun K hK => quiet_load_ct _ _ rfl (N + 1) rfl 23 (PB m) 32 (PB_rw m) _ HX1.out Try.underlying23 rfl (by kernel_rfl) (hK _ ?_))
  simp only [Act.put, List.setIfInBounds_toArray, List.set]
  refine upW_call (by rfl) (by rfl) (.tuple #[.agg (PB (nA n m)), .bool (kA n m)]) _ rfl (by simp) (fun p => ?_) ?_
  · go_big_quiet_op
    exact ⟨_, fun q => Calls.ext_of (HQ4.out q.x), rfl⟩
  simp only [Act.put, List.setIfInBounds_toArray, List.set]
  refine upW_val (by rfl) (by rfl) (by rfl) ?_
  intro K hK
  go_big_quiet_op
  refine hK _ ?_
  refine upW_late (by rfl) (.agg (PB (nA n m))) (fun _ => rfl) ?_
  simp only [Act.put, List.setIfInBounds_toArray, List.set]
  refine upW_late (by rfl) (.bool (kA n m)) (fun _ => rfl) ?_
  simp only [Act.put, List.setIfInBounds_toArray, List.set]
  refine upW_nil (fun wr9 hbr9 => ?_)
  replace HX0 := Lib.hid (HX0.out.ext hbr9)
  replace HX1 := Lib.hid (HX1.out.ext hbr9)
  replace HX2 := Lib.hid (HX2.out.ext hbr9)
  replace HB2x0 := Lib.hid (HB2x0.out.ext hbr9)
  replace HB2x1 := Lib.hid (HB2x1.out.ext hbr9)
  replace HB4a := Lib.hid (HB4a.out.ext hbr9)
  replace HB4b := Lib.hid (HB4b.out.ext hbr9)
  replace HB6a := Lib.hid (HB6a.out.ext hbr9)
  replace HB6b := Lib.hid (HB6b.out.ext hbr9)
  replace HB8 := Lib.hid (HB8.out.ext hbr9)
  replace HB := Lib.hid (HB.out.trans (hbr9.mono (show N ≤ _ by have := HB.out.size; have := HN.out; omega)))
  clear hbr9
  refine wpList_new1 rfl 23 rfl (PB 0) zBy rfl _ _ rfl rfl (PB (nA n m)) 32 (PB_rw (nA n m)) (PB_rw 0).size (by kernel_rfl) rfl rfl (fun B10 wr10 hB10 hbr10 hCB10 => ?_)
  have HB10 := Lib.hid hCB10
  have hlB10X0 : N < B10 := by rw [← hB10]; exact HX0.out.lt
  have hlB10X1 : (N + 1) < B10 := by rw [← hB10]; exact HX1.out.lt
  have hlB10X2 : (N + 1 + 1) < B10 := by rw [← hB10]; exact HX2.out.lt
  have hlB10B2x0 : B2x0 < B10 := by rw [← hB10]; exact HB2x0.out.lt
  have hlB10B2x1 : B2x1 < B10 := by rw [← hB10]; exact HB2x1.out.lt
  have hlB10B4a : B4a < B10 := by rw [← hB10]; exact HB4a.out.lt
  have hlB10B4b : B4b < B10 := by rw [← hB10]; exact HB4b.out.lt
  have hlB10B6a : B6a < B10 := by rw [← hB10]; exact HB6a.out.lt
  have hlB10B6b : B6b < B10 := by rw [← hB10]; exact HB6b.out.lt
  have hlB10B8 : B8 < B10 := by rw [← hB10]; exact HB8.out.lt
  have hNB10 : N ≤ B10 := by rw [← hB10]; have := HB.out.size; have := HN.out; omega
  clear hB10 hCB10
  simp only [Act.put, List.setIfInBounds_toArray, List.set]
  replace HX0 := Lib.hid (HX0.out.ext hbr10)
  replace HX1 := Lib.hid (HX1.out.ext hbr10)
  replace HX2 := Lib.hid (HX2.out.ext hbr10)
  replace HB2x0 := Lib.hid (HB2x0.out.ext hbr10)
  replace HB2x1 := Lib.hid (HB2x1.out.ext hbr10)
  replace HB4a := Lib.hid (HB4a.out.ext hbr10)
  replace HB4b := Lib.hid (HB4b.out.ext hbr10)
  replace HB6a := Lib.hid (HB6a.out.ext hbr10)
  replace HB6b := Lib.hid (HB6b.out.ext hbr10)
  replace HB8 := Lib.hid (HB8.out.ext hbr10)
  replace HB := Lib.hid (HB.out.trans (hbr10.mono (show N ≤ _ by have := HB.out.size; have := HN.out; omega)))
  clear hbr10
  go_upto_region 8 with fail
  refine wp_region_seq 5 ?_
  simp only [List.take_succ_cons, List.take_zero, List.drop_succ_cons, List.drop_zero]
  refine upW_val (by rfl) (by rfl) (by rfl) (fun K hK => quiet_load_ct _ _ rfl B2x0 rfl 24 (PB n) 32 (PB_rw n) _ HB2x0.out Try.underlying24 rfl (by kernel_rfl) (hK _ ?_))
  simp only [Act.put, List.setIfInBounds_toArray, List.set]
  refine upW_call (by rfl) (by rfl) (.tuple #[.agg (PB (nG n)), .bool (gk n)]) _ rfl (by simp) (fun p => ?_) ?_
  · go_big_quiet_op
    exact ⟨_, fun q => Calls.ext_of (HQ5.out q.x), rfl⟩
  simp only [Act.put, List.setIfInBounds_toArray, List.set]
  refine upW_val (by rfl) (by rfl) (by rfl) ?_
  intro K hK
  go_big_quiet_op
  refine hK _ ?_
  refine upW_late (by rfl) (.agg (PB (nG n))) (fun _ => rfl) ?_
  simp only [Act.put, List.setIfInBounds_toArray, List.set]
  refine upW_late (by rfl) (.bool (gk n)) (fun _ => rfl) ?_
  simp only [Act.put, List.setIfInBounds_toArray, List.set]
  refine upW_nil (fun wr11 hbr11 => ?_)
  replace HX0 := Lib.hid (HX0.out.ext hbr11)
  replace HX1 := Lib.hid (HX1.out.ext hbr11)
  replace HX2 := Lib.hid (HX2.out.ext hbr11)
  replace HB2x0 := Lib.hid (HB2x0.out.ext hbr11)
  replace HB2x1 := Lib.hid (HB2x1.out.ext hbr11)
  replace HB4a := Lib.hid (HB4a.out.ext hbr11)
  replace HB4b := Lib.hid (HB4b.out.ext hbr11)
  replace HB6a := Lib.hid (HB6a.out.ext hbr11)
  replace HB6b := Lib.hid (HB6b.out.ext hbr11)
  replace HB8 := Lib.hid (HB8.out.ext hbr11)
  replace HB10 := Lib.hid (HB10.out.ext hbr11)
  replace HB := Lib.hid (HB.out.trans (hbr11.mono (show N ≤ _ by have := HB.out.size; have := HN.out; omega)))
  clear hbr11
  refine wpList_new1 rfl 24 rfl (PB 0) zPt rfl _ _ rfl rfl (PB (nG n)) 32 (PB_rw (nG n)) (PB_rw 0).size (by kernel_rfl) rfl rfl (fun B12 wr12 hB12 hbr12 hCB12 => ?_)
  have HB12 := Lib.hid hCB12
  have hlB12X0 : N < B12 := by rw [← hB12]; exact HX0.out.lt
  have hlB12X1 : (N + 1) < B12 := by rw [← hB12]; exact HX1.out.lt
  have hlB12X2 : (N + 1 + 1) < B12 := by rw [← hB12]; exact HX2.out.lt
  have hlB12B2x0 : B2x0 < B12 := by rw [← hB12]; exact HB2x0.out.lt
  have hlB12B2x1 : B2x1 < B12 := by rw [← hB12]; exact HB2x1.out.lt
  have hlB12B4a : B4a < B12 := by rw [← hB12]; exact HB4a.out.lt
  have hlB12B4b : B4b < B12 := by rw [← hB12]; exact HB4b.out.lt
  have hlB12B6a : B6a < B12 := by rw [← hB12]; exact HB6a.out.lt
  have hlB12B6b : B6b < B12 := by rw [← hB12]; exact HB6b.out.lt
  have hlB12B8 : B8 < B12 := by rw [← hB12]; exact HB8.out.lt
  have hlB12B10 : B10 < B12 := by rw [← hB12]; exact HB10.out.lt
  have hNB12 : N ≤ B12 := by rw [← hB12]; have := HB.out.size; have := HN.out; omega
  clear hB12 hCB12
  simp only [Act.put, List.setIfInBounds_toArray, List.set]
  replace HX0 := Lib.hid (HX0.out.ext hbr12)
  replace HX1 := Lib.hid (HX1.out.ext hbr12)
  replace HX2 := Lib.hid (HX2.out.ext hbr12)
  replace HB2x0 := Lib.hid (HB2x0.out.ext hbr12)
  replace HB2x1 := Lib.hid (HB2x1.out.ext hbr12)
  replace HB4a := Lib.hid (HB4a.out.ext hbr12)
  replace HB4b := Lib.hid (HB4b.out.ext hbr12)
  replace HB6a := Lib.hid (HB6a.out.ext hbr12)
  replace HB6b := Lib.hid (HB6b.out.ext hbr12)
  replace HB8 := Lib.hid (HB8.out.ext hbr12)
  replace HB10 := Lib.hid (HB10.out.ext hbr12)
  replace HB := Lib.hid (HB.out.trans (hbr12.mono (show N ≤ _ by have := HB.out.size; have := HN.out; omega)))
  clear hbr12
  go_upto_region 9 with fail
  refine wp_region_seq 5 ?_
  simp only [List.take_succ_cons, List.take_zero, List.drop_succ_cons, List.drop_zero]
  refine upW_val (by rfl) (by rfl) (by rfl) (fun K hK => quiet_load_ct _ _ rfl N rfl 23 (PB n) 32 (PB_rw n) _ HX0.out Try.underlying23 rfl (by kernel_rfl) (hK _ ?_))
  simp only [Act.put, List.setIfInBounds_toArray, List.set]
  refine upW_call (by rfl) (by rfl) (.tuple #[.agg (PB (nG n)), .bool (gk n)]) _ rfl (by simp) (fun p => ?_) ?_
  · go_big_quiet_op
    exact ⟨_, fun q => Calls.ext_of (HQ6.out q.x), rfl⟩
  simp only [Act.put, List.setIfInBounds_toArray, List.set]
  refine upW_val (by rfl) (by rfl) (by rfl) ?_
  intro K hK
  go_big_quiet_op
  refine hK _ ?_
  refine upW_late (by rfl) (.agg (PB (nG n))) (fun _ => rfl) ?_
  simp only [Act.put, List.setIfInBounds_toArray, List.set]
  refine upW_late (by rfl) (.bool (gk n)) (fun _ => rfl) ?_
  simp only [Act.put, List.setIfInBounds_toArray, List.set]
  refine upW_nil (fun wr13 hbr13 => ?_)
  replace HX0 := Lib.hid (HX0.out.ext hbr13)
  replace HX1 := Lib.hid (HX1.out.ext hbr13)
  replace HX2 := Lib.hid (HX2.out.ext hbr13)
  replace HB2x0 := Lib.hid (HB2x0.out.ext hbr13)
  replace HB2x1 := Lib.hid (HB2x1.out.ext hbr13)
  replace HB4a := Lib.hid (HB4a.out.ext hbr13)
  replace HB4b := Lib.hid (HB4b.out.ext hbr13)
  replace HB6a := Lib.hid (HB6a.out.ext hbr13)
  replace HB6b := Lib.hid (HB6b.out.ext hbr13)
  replace HB8 := Lib.hid (HB8.out.ext hbr13)
  replace HB10 := Lib.hid (HB10.out.ext hbr13)
  replace HB12 := Lib.hid (HB12.out.ext hbr13)
  replace HB := Lib.hid (HB.out.trans (hbr13.mono (show N ≤ _ by have := HB.out.size; have := HN.out; omega)))
  clear hbr13
  refine wpList_new1 rfl 23 rfl (PB 0) zBy rfl _ _ rfl rfl (PB (nG n)) 32 (PB_rw (nG n)) (PB_rw 0).size (by kernel_rfl) rfl rfl (fun B14 wr14 hB14 hbr14 hCB14 => ?_)
  have HB14 := Lib.hid hCB14
  have hlB14X0 : N < B14 := by rw [← hB14]; exact HX0.out.lt
  have hlB14X1 : (N + 1) < B14 := by rw [← hB14]; exact HX1.out.lt
  have hlB14X2 : (N + 1 + 1) < B14 := by rw [← hB14]; exact HX2.out.lt
  have hlB14B2x0 : B2x0 < B14 := by rw [← hB14]; exact HB2x0.out.lt
  have hlB14B2x1 : B2x1 < B14 := by rw [← hB14]; exact HB2x1.out.lt
  have hlB14B4a : B4a < B14 := by rw [← hB14]; exact HB4a.out.lt
  have hlB14B4b : B4b < B14 := by rw [← hB14]; exact HB4b.out.lt
  have hlB14B6a : B6a < B14 := by rw [← hB14]; exact HB6a.out.lt
  have hlB14B6b : B6b < B14 := by rw [← hB14]; exact HB6b.out.lt
  have hlB14B8 : B8 < B14 := by rw [← hB14]; exact HB8.out.lt
  have hlB14B10 : B10 < B14 := by rw [← hB14]; exact HB10.out.lt
  have hlB14B12 : B12 < B14 := by rw [← hB14]; exact HB12.out.lt
  have hNB14 : N ≤ B14 := by rw [← hB14]; have := HB.out.size; have := HN.out; omega
  clear hB14 hCB14
  simp only [Act.put, List.setIfInBounds_toArray, List.set]
  replace HX0 := Lib.hid (HX0.out.ext hbr14)
  replace HX1 := Lib.hid (HX1.out.ext hbr14)
  replace HX2 := Lib.hid (HX2.out.ext hbr14)
  replace HB2x0 := Lib.hid (HB2x0.out.ext hbr14)
  replace HB2x1 := Lib.hid (HB2x1.out.ext hbr14)
  replace HB4a := Lib.hid (HB4a.out.ext hbr14)
  replace HB4b := Lib.hid (HB4b.out.ext hbr14)
  replace HB6a := Lib.hid (HB6a.out.ext hbr14)
  replace HB6b := Lib.hid (HB6b.out.ext hbr14)
  replace HB8 := Lib.hid (HB8.out.ext hbr14)
  replace HB10 := Lib.hid (HB10.out.ext hbr14)
  replace HB12 := Lib.hid (HB12.out.ext hbr14)
  replace HB := Lib.hid (HB.out.trans (hbr14.mono (show N ≤ _ by have := HB.out.size; have := HN.out; omega)))
  clear hbr14
  go_upto_region 10 with fail
  refine wp_region_seq 6 ?_
  simp only [List.take_succ_cons, List.take_zero, List.drop_succ_cons, List.drop_zero]
  refine upW_val (by rfl) (by rfl) (by rfl) (fun K hK => quiet_load_ct _ _ rfl (N + 1 + 1) rfl 23 (PB k) 32 (PB_rw k) _ HX2.out Try.underlying23 rfl (by kernel_rfl) (hK _ ?_))
  simp only [Act.put, List.setIfInBounds_toArray, List.set]
  refine upW_val (by rfl) (by rfl) (by rfl) (fun K hK => quiet_load_ct _ _ rfl B2x0 rfl 24 (PB n) 32 (PB_rw n) _ HB2x0.out Try.underlying24 rfl (by kernel_rfl) (hK _ ?_))
  simp only [Act.put, List.setIfInBounds_toArray, List.set]
  refine upW_call (by rfl) (by rfl) (.tuple #[.agg (PB (nT k n)), .bool (gk n)]) _ rfl (by simp) (fun p => ?_) ?_
  · go_big_quiet_op
    exact ⟨_, fun q => Calls.ext_of (HQ7.out q.x), rfl⟩
  simp only [Act.put, List.setIfInBounds_toArray, List.set]
  refine upW_val (by rfl) (by rfl) (by rfl) ?_
  intro K hK
  go_big_quiet_op
  refine hK _ ?_
  refine upW_late (by rfl) (.agg (PB (nT k n))) (fun _ => rfl) ?_
  simp only [Act.put, List.setIfInBounds_toArray, List.set]
  refine upW_late (by rfl) (.bool (gk n)) (fun _ => rfl) ?_
  simp only [Act.put, List.setIfInBounds_toArray, List.set]
  refine upW_nil (fun wr15 hbr15 => ?_)
  replace HX0 := Lib.hid (HX0.out.ext hbr15)
  replace HX1 := Lib.hid (HX1.out.ext hbr15)
  replace HX2 := Lib.hid (HX2.out.ext hbr15)
  replace HB2x0 := Lib.hid (HB2x0.out.ext hbr15)
  replace HB2x1 := Lib.hid (HB2x1.out.ext hbr15)
  replace HB4a := Lib.hid (HB4a.out.ext hbr15)
  replace HB4b := Lib.hid (HB4b.out.ext hbr15)
  replace HB6a := Lib.hid (HB6a.out.ext hbr15)
  replace HB6b := Lib.hid (HB6b.out.ext hbr15)
  replace HB8 := Lib.hid (HB8.out.ext hbr15)
  replace HB10 := Lib.hid (HB10.out.ext hbr15)
  replace HB12 := Lib.hid (HB12.out.ext hbr15)
  replace HB14 := Lib.hid (HB14.out.ext hbr15)
  replace HB := Lib.hid (HB.out.trans (hbr15.mono (show N ≤ _ by have := HB.out.size; have := HN.out; omega)))
  clear hbr15
  refine wpList_new1 rfl 24 rfl (PB 0) zPt rfl _ _ rfl rfl (PB (nT k n)) 32 (PB_rw (nT k n)) (PB_rw 0).size (by kernel_rfl) rfl rfl (fun B16 wr16 hB16 hbr16 hCB16 => ?_)
  have HB16 := Lib.hid hCB16
  have hlB16X0 : N < B16 := by rw [← hB16]; exact HX0.out.lt
  have hlB16X1 : (N + 1) < B16 := by rw [← hB16]; exact HX1.out.lt
  have hlB16X2 : (N + 1 + 1) < B16 := by rw [← hB16]; exact HX2.out.lt
  have hlB16B2x0 : B2x0 < B16 := by rw [← hB16]; exact HB2x0.out.lt
  have hlB16B2x1 : B2x1 < B16 := by rw [← hB16]; exact HB2x1.out.lt
  have hlB16B4a : B4a < B16 := by rw [← hB16]; exact HB4a.out.lt
  have hlB16B4b : B4b < B16 := by rw [← hB16]; exact HB4b.out.lt
  have hlB16B6a : B6a < B16 := by rw [← hB16]; exact HB6a.out.lt
  have hlB16B6b : B6b < B16 := by rw [← hB16]; exact HB6b.out.lt
  have hlB16B8 : B8 < B16 := by rw [← hB16]; exact HB8.out.lt
  have hlB16B10 : B10 < B16 := by rw [← hB16]; exact HB10.out.lt
  have hlB16B12 : B12 < B16 := by rw [← hB16]; exact HB12.out.lt
  have hlB16B14 : B14 < B16 := by rw [← hB16]; exact HB14.out.lt
  have hNB16 : N ≤ B16 := by rw [← hB16]; have := HB.out.size; have := HN.out; omega
  clear hB16 hCB16
  simp only [Act.put, List.setIfInBounds_toArray, List.set]
  replace HX0 := Lib.hid (HX0.out.ext hbr16)
  replace HX1 := Lib.hid (HX1.out.ext hbr16)
  replace HX2 := Lib.hid (HX2.out.ext hbr16)
  replace HB2x0 := Lib.hid (HB2x0.out.ext hbr16)
  replace HB2x1 := Lib.hid (HB2x1.out.ext hbr16)
  replace HB4a := Lib.hid (HB4a.out.ext hbr16)
  replace HB4b := Lib.hid (HB4b.out.ext hbr16)
  replace HB6a := Lib.hid (HB6a.out.ext hbr16)
  replace HB6b := Lib.hid (HB6b.out.ext hbr16)
  replace HB8 := Lib.hid (HB8.out.ext hbr16)
  replace HB10 := Lib.hid (HB10.out.ext hbr16)
  replace HB12 := Lib.hid (HB12.out.ext hbr16)
  replace HB14 := Lib.hid (HB14.out.ext hbr16)
  replace HB := Lib.hid (HB.out.trans (hbr16.mono (show N ≤ _ by have := HB.out.size; have := HN.out; omega)))
  clear hbr16
  go_upto_region 11 with fail
  refine wp_region_seq 6 ?_
  simp only [List.take_succ_cons, List.take_zero, List.drop_succ_cons, List.drop_zero]
  refine upW_val (by rfl) (by rfl) (by rfl) (fun K hK => quiet_load_ct _ _ rfl (N + 1 + 1) rfl 23 (PB k) 32 (PB_rw k) _ HX2.out Try.underlying23 rfl (by kernel_rfl) (hK _ ?_))
  simp only [Act.put, List.setIfInBounds_toArray, List.set]
  refine upW_val (by rfl) (by rfl) (by rfl) (fun K hK => quiet_load_ct _ _ rfl N rfl 23 (PB n) 32 (PB_rw n) _ HX0.out Try.underlying23 rfl (by kernel_rfl) (hK _ ?_))
  simp only [Act.put, List.setIfInBounds_toArray, List.set]
  refine upW_call (by rfl) (by rfl) (.tuple #[.agg (PB (nT k n)), .bool (gk n)]) _ rfl (by simp) (fun p => ?_) ?_
  · go_big_quiet_op
    exact ⟨_, fun q => Calls.ext_of (HQ8.out q.x), rfl⟩
  simp only [Act.put, List.setIfInBounds_toArray, List.set]
  refine upW_val (by rfl) (by rfl) (by rfl) ?_
  intro K hK
  go_big_quiet_op
  refine hK _ ?_
  refine upW_late (by rfl) (.agg (PB (nT k n))) (fun _ => rfl) ?_
  simp only [Act.put, List.setIfInBounds_toArray, List.set]
  refine upW_late (by rfl) (.bool (gk n)) (fun _ => rfl) ?_
  simp only [Act.put, List.setIfInBounds_toArray, List.set]
  refine upW_nil (fun wr17 hbr17 => ?_)
  replace HX0 := Lib.hid (HX0.out.ext hbr17)
  replace HX1 := Lib.hid (HX1.out.ext hbr17)
  replace HX2 := Lib.hid (HX2.out.ext hbr17)
  replace HB2x0 := Lib.hid (HB2x0.out.ext hbr17)
  replace HB2x1 := Lib.hid (HB2x1.out.ext hbr17)
  replace HB4a := Lib.hid (HB4a.out.ext hbr17)
  replace HB4b := Lib.hid (HB4b.out.ext hbr17)
  replace HB6a := Lib.hid (HB6a.out.ext hbr17)
  replace HB6b := Lib.hid (HB6b.out.ext hbr17)
  replace HB8 := Lib.hid (HB8.out.ext hbr17)
  replace HB10 := Lib.hid (HB10.out.ext hbr17)
  replace HB12 := Lib.hid (HB12.out.ext hbr17)
  replace HB14 := Lib.hid (HB14.out.ext hbr17)
  replace HB16 := Lib.hid (HB16.out.ext hbr17)
  replace HB := Lib.hid (HB.out.trans (hbr17.mono (show N ≤ _ by have := HB.out.size; have := HN.out; omega)))
  clear hbr17
  refine wpList_new1 rfl 23 rfl (PB 0) zBy rfl _ _ rfl rfl (PB (nT k n)) 32 (PB_rw (nT k n)) (PB_rw 0).size (by kernel_rfl) rfl rfl (fun B18 wr18 hB18 hbr18 hCB18 => ?_)
  have HB18 := Lib.hid hCB18
  have hlB18X0 : N < B18 := by rw [← hB18]; exact HX0.out.lt
  have hlB18X1 : (N + 1) < B18 := by rw [← hB18]; exact HX1.out.lt
  have hlB18X2 : (N + 1 + 1) < B18 := by rw [← hB18]; exact HX2.out.lt
  have hlB18B2x0 : B2x0 < B18 := by rw [← hB18]; exact HB2x0.out.lt
  have hlB18B2x1 : B2x1 < B18 := by rw [← hB18]; exact HB2x1.out.lt
  have hlB18B4a : B4a < B18 := by rw [← hB18]; exact HB4a.out.lt
  have hlB18B4b : B4b < B18 := by rw [← hB18]; exact HB4b.out.lt
  have hlB18B6a : B6a < B18 := by rw [← hB18]; exact HB6a.out.lt
  have hlB18B6b : B6b < B18 := by rw [← hB18]; exact HB6b.out.lt
  have hlB18B8 : B8 < B18 := by rw [← hB18]; exact HB8.out.lt
  have hlB18B10 : B10 < B18 := by rw [← hB18]; exact HB10.out.lt
  have hlB18B12 : B12 < B18 := by rw [← hB18]; exact HB12.out.lt
  have hlB18B14 : B14 < B18 := by rw [← hB18]; exact HB14.out.lt
  have hlB18B16 : B16 < B18 := by rw [← hB18]; exact HB16.out.lt
  have hNB18 : N ≤ B18 := by rw [← hB18]; have := HB.out.size; have := HN.out; omega
  clear hB18 hCB18
  simp only [Act.put, List.setIfInBounds_toArray, List.set]
  replace HX0 := Lib.hid (HX0.out.ext hbr18)
  replace HX1 := Lib.hid (HX1.out.ext hbr18)
  replace HX2 := Lib.hid (HX2.out.ext hbr18)
  replace HB2x0 := Lib.hid (HB2x0.out.ext hbr18)
  replace HB2x1 := Lib.hid (HB2x1.out.ext hbr18)
  replace HB4a := Lib.hid (HB4a.out.ext hbr18)
  replace HB4b := Lib.hid (HB4b.out.ext hbr18)
  replace HB6a := Lib.hid (HB6a.out.ext hbr18)
  replace HB6b := Lib.hid (HB6b.out.ext hbr18)
  replace HB8 := Lib.hid (HB8.out.ext hbr18)
  replace HB10 := Lib.hid (HB10.out.ext hbr18)
  replace HB12 := Lib.hid (HB12.out.ext hbr18)
  replace HB14 := Lib.hid (HB14.out.ext hbr18)
  replace HB16 := Lib.hid (HB16.out.ext hbr18)
  replace HB := Lib.hid (HB.out.trans (hbr18.mono (show N ≤ _ by have := HB.out.size; have := HN.out; omega)))
  clear hbr18
  go_upto_region 12 with fail
  refine wp_region_upT 50 _ (by kernel_rfl) (by kernel_rfl) rfl (by kernel_rfl) (fun _ _ dst _ _ h => by cases dst <;> exact h) ?_
  simp only [List.take_succ_cons, List.take_zero, List.drop_succ_cons, List.drop_zero]
  refine upW_val (by rfl) (by rfl) (by rfl) (fun K hK => quiet_load_ct _ _ rfl B2x0 rfl 24 (PB n) 32 (PB_rw n) _ HB2x0.out Try.underlying24 rfl (by kernel_rfl) (hK _ ?_))
  simp only [Act.put, List.setIfInBounds_toArray, List.set]
  refine upW_call (by rfl) (by rfl) (.bool (gk n)) _ rfl (by simp) (fun p => ?_) ?_
  · go_big_quiet_op
    exact ⟨_, fun q => Calls.ext_of (HQ9.out q.x), rfl⟩
  simp only [Act.put, List.setIfInBounds_toArray, List.set]
  refine upW_val (by rfl) (by rfl) (by rfl) (fun K hK => quiet_load_ct _ _ rfl N rfl 23 (PB n) 32 (PB_rw n) _ HX0.out Try.underlying23 rfl (by kernel_rfl) (hK _ ?_))
  simp only [Act.put, List.setIfInBounds_toArray, List.set]
  refine upW_call (by rfl) (by rfl) (.bool (gk n)) _ rfl (by simp) (fun p => ?_) ?_
  · go_big_quiet_op
    exact ⟨_, fun q => Calls.ext_of (HQ10.out q.x), rfl⟩
  simp only [Act.put, List.setIfInBounds_toArray, List.set]
  refine upW_late (by rfl) (.bool true) (fun w => run_eqBo _ _ _ _ rfl (gk n) (gk n) rfl rfl true (by simp) w) ?_
  simp only [Act.put, List.setIfInBounds_toArray, List.set]
  refine upW_val (by rfl) (by rfl) (by rfl) ?_
  intro K hK
  go_big_quiet_op
  refine hK _ ?_
  refine upW_val (by rfl) (by rfl) (by rfl) (fun K hK => quiet_load_ct _ _ rfl B4a rfl 26 (NB (gx n)) 32 (NB_rw (gx n)) _ HB4a.out Try.underlying26 rfl (by kernel_rfl) (hK _ ?_))
  simp only [Act.put, List.setIfInBounds_toArray, List.set]
  refine upW_val (by rfl) (by rfl) (by rfl) (fun K hK => quiet_load_ct _ _ rfl B6a rfl 23 (NB (gx n)) 32 (NB_rw (gx n)) _ HB6a.out Try.underlying23 rfl (by kernel_rfl) (hK _ ?_))
  simp only [Act.put, List.setIfInBounds_toArray, List.set]
  refine upW_late (by rfl) (.bool true) (fun w => run_eqP _ _ _ _ 23 rfl Try.underlying23 (gx n).val (gx n).val rfl rfl (gx n).lt256 (gx n).lt256 (by kernel_rfl) true (decide_eq_true rfl) w) ?_
  simp only [Act.put, List.setIfInBounds_toArray, List.set]
  refine upW_val (by rfl) (by rfl) (by rfl) ?_
  intro K hK
  go_big_quiet_op
  refine hK _ ?_
  refine upW_val (by rfl) (by rfl) (by rfl) ?_
  intro K hK
  go_big_quiet_op
  refine hK _ ?_
  refine upW_val (by rfl) (by rfl) (by rfl) (fun K hK => quiet_load_ct _ _ rfl B4b rfl 26 (NB (gy n)) 32 (NB_rw (gy n)) _ HB4b.out Try.underlying26 rfl (by kernel_rfl) (hK _ ?_))
  simp only [Act.put, List.setIfInBounds_toArray, List.set]
  refine upW_val (by rfl) (by rfl) (by rfl) (fun K hK => quiet_load_ct _ _ rfl B6b rfl 23 (NB (gy n)) 32 (NB_rw (gy n)) _ HB6b.out Try.underlying23 rfl (by kernel_rfl) (hK _ ?_))
  simp only [Act.put, List.setIfInBounds_toArray, List.set]
  refine upW_late (by rfl) (.bool true) (fun w => run_eqP _ _ _ _ 23 rfl Try.underlying23 (gy n).val (gy n).val rfl rfl (gy n).lt256 (gy n).lt256 (by kernel_rfl) true (decide_eq_true rfl) w) ?_
  simp only [Act.put, List.setIfInBounds_toArray, List.set]
  refine upW_val (by rfl) (by rfl) (by rfl) ?_
  intro K hK
  go_big_quiet_op
  refine hK _ ?_
  refine upW_val (by rfl) (by rfl) (by rfl) ?_
  intro K hK
  go_big_quiet_op
  refine hK _ ?_
  refine upW_val (by rfl) (by rfl) (by rfl) ?_
  intro K hK
  go_big_quiet_op
  refine hK _ ?_
  refine upW_val (by rfl) (by rfl) (by rfl) ?_
  intro K hK
  go_big_quiet_op
  refine hK _ ?_
  refine upW_late (by rfl) (.bool true) (fun w => run_eqBo _ _ _ _ rfl (gk n) (gk n) rfl rfl true (by simp) w) ?_
  simp only [Act.put, List.setIfInBounds_toArray, List.set]
  refine upW_val (by rfl) (by rfl) (by rfl) ?_
  intro K hK
  go_big_quiet_op
  refine hK _ ?_
  refine upW_val (by rfl) (by rfl) (by rfl) ?_
  intro K hK
  go_big_quiet_op
  refine hK _ ?_
  refine upW_val (by rfl) (by rfl) (by rfl) (fun K hK => quiet_load_ct _ _ rfl B8 rfl 24 (PB (nA n m)) 32 (PB_rw (nA n m)) _ HB8.out Try.underlying24 rfl (by kernel_rfl) (hK _ ?_))
  simp only [Act.put, List.setIfInBounds_toArray, List.set]
  refine upW_val (by rfl) (by rfl) (by rfl) (fun K hK => quiet_load_ct _ _ rfl B10 rfl 23 (PB (nA n m)) 32 (PB_rw (nA n m)) _ HB10.out Try.underlying23 rfl (by kernel_rfl) (hK _ ?_))
  simp only [Act.put, List.setIfInBounds_toArray, List.set]
  refine upW_late (by rfl) (.bool true) (fun w => run_eqP _ _ _ _ 23 rfl Try.underlying23 (nA n m) (nA n m) rfl rfl (nA_lt n m) (nA_lt n m) (by kernel_rfl) true (decide_eq_true rfl) w) ?_
  simp only [Act.put, List.setIfInBounds_toArray, List.set]
  refine upW_val (by rfl) (by rfl) (by rfl) ?_
  intro K hK
  go_big_quiet_op
  refine hK _ ?_
  refine upW_val (by rfl) (by rfl) (by rfl) ?_
  intro K hK
  go_big_quiet_op
  refine hK _ ?_
  refine upW_val (by rfl) (by rfl) (by rfl) ?_
  intro K hK
  go_big_quiet_op
  refine hK _ ?_
  refine upW_val (by rfl) (by rfl) (by rfl) ?_
  intro K hK
  go_big_quiet_op
  refine hK _ ?_
  refine upW_late (by rfl) (.bool true) (fun w => run_eqBo _ _ _ _ rfl (kA n m) (kA n m) rfl rfl true (by simp) w) ?_
  simp only [Act.put, List.setIfInBounds_toArray, List.set]
  refine upW_val (by rfl) (by rfl) (by rfl) ?_
  intro K hK
  go_big_quiet_op
  refine hK _ ?_
  refine upW_val (by rfl) (by rfl) (by rfl) ?_
  intro K hK
  go_big_quiet_op
  refine hK _ ?_
  refine upW_val (by rfl) (by rfl) (by rfl) (fun K hK => quiet_load_ct _ _ rfl B12 rfl 24 (PB (nG n)) 32 (PB_rw (nG n)) _ HB12.out Try.underlying24 rfl (by kernel_rfl) (hK _ ?_))
  simp only [Act.put, List.setIfInBounds_toArray, List.set]
  refine upW_val (by rfl) (by rfl) (by rfl) (fun K hK => quiet_load_ct _ _ rfl B14 rfl 23 (PB (nG n)) 32 (PB_rw (nG n)) _ HB14.out Try.underlying23 rfl (by kernel_rfl) (hK _ ?_))
  simp only [Act.put, List.setIfInBounds_toArray, List.set]
  refine upW_late (by rfl) (.bool true) (fun w => run_eqP _ _ _ _ 23 rfl Try.underlying23 (nG n) (nG n) rfl rfl (nG_lt n) (nG_lt n) (by kernel_rfl) true (decide_eq_true rfl) w) ?_
  simp only [Act.put, List.setIfInBounds_toArray, List.set]
  refine upW_val (by rfl) (by rfl) (by rfl) ?_
  intro K hK
  go_big_quiet_op
  refine hK _ ?_
  refine upW_val (by rfl) (by rfl) (by rfl) ?_
  intro K hK
  go_big_quiet_op
  refine hK _ ?_
  refine upW_val (by rfl) (by rfl) (by rfl) ?_
  intro K hK
  go_big_quiet_op
  refine hK _ ?_
  refine upW_val (by rfl) (by rfl) (by rfl) ?_
  intro K hK
  go_big_quiet_op
  refine hK _ ?_
  refine upW_late (by rfl) (.bool true) (fun w => run_eqBo _ _ _ _ rfl (gk n) (gk n) rfl rfl true (by simp) w) ?_
  simp only [Act.put, List.setIfInBounds_toArray, List.set]
  refine upW_val (by rfl) (by rfl) (by rfl) ?_
  intro K hK
  go_big_quiet_op
  refine hK _ ?_
  refine upW_val (by rfl) (by rfl) (by rfl) ?_
  intro K hK
  go_big_quiet_op
  refine hK _ ?_
  refine upW_val (by rfl) (by rfl) (by rfl) (fun K hK => quiet_load_ct _ _ rfl B16 rfl 24 (PB (nT k n)) 32 (PB_rw (nT k n)) _ HB16.out Try.underlying24 rfl (by kernel_rfl) (hK _ ?_))
  simp only [Act.put, List.setIfInBounds_toArray, List.set]
  refine upW_val (by rfl) (by rfl) (by rfl) (fun K hK => quiet_load_ct _ _ rfl B18 rfl 23 (PB (nT k n)) 32 (PB_rw (nT k n)) _ HB18.out Try.underlying23 rfl (by kernel_rfl) (hK _ ?_))
  simp only [Act.put, List.setIfInBounds_toArray, List.set]
  refine upW_late (by rfl) (.bool true) (fun w => run_eqP _ _ _ _ 23 rfl Try.underlying23 (nT k n) (nT k n) rfl rfl (nT_lt k n) (nT_lt k n) (by kernel_rfl) true (decide_eq_true rfl) w) ?_
  simp only [Act.put, List.setIfInBounds_toArray, List.set]
  refine upW_val (by rfl) (by rfl) (by rfl) ?_
  intro K hK
  go_big_quiet_op
  refine hK _ ?_
  refine upW_val (by rfl) (by rfl) (by rfl) ?_
  intro K hK
  go_big_quiet_op
  refine hK _ ?_
  refine upW_val (by rfl) (by rfl) (by rfl) ?_
  intro K hK
  go_big_quiet_op
  refine hK _ ?_
  refine upW_val (by rfl) (by rfl) (by rfl) ?_
  intro K hK
  go_big_quiet_op
  refine hK _ ?_
  refine upW_late (by rfl) (.bool true) (fun w => run_eqBo _ _ _ _ rfl (gk n) (gk n) rfl rfl true (by simp) w) ?_
  simp only [Act.put, List.setIfInBounds_toArray, List.set]
  refine upW_val (by rfl) (by rfl) (by rfl) ?_
  intro K hK
  go_big_quiet_op
  refine hK _ ?_
  refine upW_nil (fun wr19 hbr19 => ?_)
  replace HX0 := Lib.hid (HX0.out.ext hbr19)
  replace HX1 := Lib.hid (HX1.out.ext hbr19)
  replace HX2 := Lib.hid (HX2.out.ext hbr19)
  replace HB2x0 := Lib.hid (HB2x0.out.ext hbr19)
  replace HB2x1 := Lib.hid (HB2x1.out.ext hbr19)
  replace HB4a := Lib.hid (HB4a.out.ext hbr19)
  replace HB4b := Lib.hid (HB4b.out.ext hbr19)
  replace HB6a := Lib.hid (HB6a.out.ext hbr19)
  replace HB6b := Lib.hid (HB6b.out.ext hbr19)
  replace HB8 := Lib.hid (HB8.out.ext hbr19)
  replace HB10 := Lib.hid (HB10.out.ext hbr19)
  replace HB12 := Lib.hid (HB12.out.ext hbr19)
  replace HB14 := Lib.hid (HB14.out.ext hbr19)
  replace HB16 := Lib.hid (HB16.out.ext hbr19)
  replace HB18 := Lib.hid (HB18.out.ext hbr19)
  replace HB := Lib.hid (HB.out.trans (hbr19.mono (show N ≤ _ by have := HB.out.size; have := HN.out; omega)))
  clear hbr19
  go_wp2
  go_ret
  exact ⟨rfl, by rw [HN.out]; exact HB.out⟩
theorem curveSays_true (a b c : List UInt8) (w : World) (hla : a.length = 32) (hlb : b.length = 32) (hlc : c.length = 32) : Calls Try.prog 4 #[.agg (byteVals a).toArray, .agg (byteVals b).toArray, .agg (byteVals c).toArray] w fun e w' => e = .returned (.bool true) ∧ Below w.heap.size w w' := by
  have ea : (byteVals a).toArray = PB (le a) := (PB_le hla).symm
  have eb : (byteVals b).toArray = PB (le b) := (PB_le hlb).symm
  have ec : (byteVals c).toArray = PB (le c) := (PB_le hlc).symm
  rw [ea, eb, ec]
  exact curveSays_nat (le a) (le_32 a hla) (le b) (le_32 b hlb) (le c) (le_32 c hlc) w
theorem curveSays_own : ownKnob Try.prog.godebug = none := by kernel_rfl

set_option maxRecDepth 100000 in
theorem curveSays_lifted (os : Os) (started : os.Started) (H : Type) (enc : TypeId × Value → H) :
    ReturnsInHanded {} Try.checked os 4 .any (Rows.curveSaysSpec.pre6 enc Try.prog Try.f4 Rows.curveSaysRow.domain false) (Rows.curveSaysSpec.post enc Try.prog Try.f4 false true false false) := by
  refine returnsInHanded_of_change (C := Try.checked) curveSays_own started (by kernel_rfl) Try.func4
    (ChangeSpec.witness6 (enc := enc) (C := Try.checked) false ⟨#[], #[.agg (Array.replicate 32 (.int .u8 0)), .agg (Array.replicate 32 (.int .u8 0)), .agg (Array.replicate 32 (.int .u8 0))], []⟩ 8 (by kernel_rfl) (by kernel_rfl) (by kernel_rfl) (by kernel_rfl)) ?_
  intro W base args ds gs before hval0 hW hcnd _
  have hval : ∀ (j : Nat) t v, Try.f4.params[j]? = some t → args[j]? = some v → Value.okWide Try.prog W .any base t v := hval0
  have hW' := hW
  obtain ⟨p, q, hA0, hV, rfl, hfz, hnd⟩ := hW
  have hA : DataW.TrodAll enc Try.prog W 0 (fun _ => true) true Try.f4.params.toList args.toList ds p := hA0
  rw [Try.params4] at hA hval
  obtain ⟨v0, vs0, d0, ds0, p0, q0, hargs, rfl, rfl, h0, r0⟩ := trodAll_cons hA
  obtain ⟨v1, vs1, d1, ds1, p1, q1, rfl, rfl, rfl, h1, r1⟩ := trodAll_cons r0
  obtain ⟨v2, vs2, d2, ds2, p2, q2, rfl, rfl, rfl, h2, r2⟩ := trodAll_cons r1
  obtain ⟨rfl, rfl, rfl⟩ := trodAll_nil r2
  obtain rfl : args = #[v0, v1, v2] := by cases args; simp_all
  obtain ⟨rfl, rfl⟩ := trodVars_none hV
  obtain ⟨a0, hl0, rfl, rfl, rfl⟩ := open_arr8 Try.underlying23 Try.underlying5 (by kernel_rfl) (by kernel_rfl) (hval 0 23 v0 rfl rfl) h0
  obtain ⟨a1, hl1, rfl, rfl, rfl⟩ := open_arr8 Try.underlying23 Try.underlying5 (by kernel_rfl) (by kernel_rfl) (hval 1 23 v1 rfl rfl) h1
  obtain ⟨a2, hl2, rfl, rfl, rfl⟩ := open_arr8 Try.underlying23 Try.underlying5 (by kernel_rfl) (by kernel_rfl) (hval 2 23 v2 rfl rfl) h2
  clear hA0 hval0
  simp only [List.append_nil] at hW'
  refine (curveSays_true a0 a1 a2 W hl0 hl1 hl2).mono fun e W' ⟨he, bel⟩ => ?_
  subst he
  exact ⟨_, rfl, _, _, _, [], [], [], hW', trodAll_mk1 (shut_bool Try.underlying4 _), (trodAll_cons_mk (shut_arr8 Try.underlying23 Try.underlying5 (by kernel_rfl) (by kernel_rfl) a0 hl0) (trodAll_cons_mk (shut_arr8 Try.underlying23 Try.underlying5 (by kernel_rfl) (by kernel_rfl) a1 hl1) (trodAll_cons_mk (shut_arr8 Try.underlying23 Try.underlying5 (by kernel_rfl) (by kernel_rfl) a2 hl2) trodAll_mk0))), rfl, bel.frame _, fun h => by cases h⟩

theorem curveSays_holds : Rows.CurveSaysSaid :=
  OpenClaim.holds_of_wide 4 Try.f4 rfl rfl rfl rfl rfl rfl rfl ⟨rfl, rfl, rfl, rfl, rfl⟩ rfl rfl rfl rfl rfl (by kernel_rfl) Try.func4 (by kernel_rfl)
    (of_decide_eq_true (by kernel_rfl)) (by unfold Func.isWrapper; first | (rw [if_pos (by decide +kernel)]; kernel_rfl) | (rw [if_neg (by decide +kernel)]; exact ⟨rfl, rfl⟩))
    (fun os started H enc _ => curveSays_lifted os started H enc)
#print axioms curveSays_holds

end Go.Proofs.Ytfmclkmmkceldaa
