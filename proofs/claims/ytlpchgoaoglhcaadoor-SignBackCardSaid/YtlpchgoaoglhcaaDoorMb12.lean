/-
  So often: the loops of the code and of the document.
  What the exported functions tell, on both sides.
  What the laws of curve ask ahead: awake; what they compare; points of three numbers.
  Conditions: none.
-/
import Derived.Test.YtlpchgoaoglhcaaDoorCvT
import Derived.Test.YtlpchgoaoglhcaaDoorScH
namespace Go.Proofs.YtlpchgoaoglhcaaDoor
open Go.RowKit
set_option linter.unusedSimpArgs false
set_option linter.unusedVariables false
/-- Four numbers. -/
abbrev Fq := Fp × Fp × Fp × Fp
def addQ : Fq → Fq → Fq
  | (x, y, z, t), (x', y', z', t') => ((((y + x) * (y' + x')) - ((y - x) * (y' - x'))) * ((z * z' + z * z') - (cD * (t * t') + cD * (t * t'))), (((y + x) * (y' + x')) + ((y - x) * (y' - x'))) * ((z * z' + z * z') + (cD * (t * t') + cD * (t * t'))), ((z * z' + z * z') + (cD * (t * t') + cD * (t * t'))) * ((z * z' + z * z') - (cD * (t * t') + cD * (t * t'))), (((y + x) * (y' + x')) - ((y - x) * (y' - x'))) * (((y + x) * (y' + x')) + ((y - x) * (y' - x'))))
def dblQ : Fq → Fq
  | (x, y, z, t) => (((x + y) * (x + y) - (y * y + x * x)) * ((z * z + z * z) - (y * y - x * x)), (y * y + x * x) * (y * y - x * x), (y * y - x * x) * ((z * z + z * z) - (y * y - x * x)), ((x + y) * (x + y) - (y * y + x * x)) * (y * y + x * x))
def RepQ (q : Fq) (p : Pt) : Prop := Rep q.1 q.2.1 q.2.2.1 q.2.2.2 p
theorem addQ_rep {a b : Fq} {p q : Pt} (h : RepQ a p) (k : RepQ b q) : RepQ (addQ a b) (padd p q) := by
  obtain ⟨x, y, z, t⟩ := a
  obtain ⟨x', y', z', t'⟩ := b
  exact Rep.sum h k
theorem dblQ_rep {a : Fq} {p : Pt} (h : RepQ a p) : RepQ (dblQ a) (padd p p) := by
  obtain ⟨x, y, z, t⟩ := a
  exact Rep.dbl h
/-- Bit by bit from the highest on. -/
def runQ (f : Fq → Fq) (g : Fq → Fq) (k : Nat) : Nat → Fq → Fq
  | 0, acc => acc
  | i + 1, acc => runQ f g k i (if k / 2 ^ i % 2 = 1 then g (f acc) else f acc)
theorem runQ_rep {f g : Fq → Fq} {p : Pt} (hf : ∀ a q, RepQ a q → RepQ (f a) (padd q q)) (hg : ∀ a q, RepQ a q → RepQ (g a) (padd q p)) (k : Nat) : ∀ j acc, RepQ acc (ptimes (k / 2 ^ j) p) → RepQ (runQ f g k j acc) (ptimes k p)
  | 0, acc, h => by rw [Nat.pow_zero, Nat.div_one] at h; exact h
  | j + 1, acc, h => by
    refine runQ_rep hf hg k j _ ?_
    have e : k / 2 ^ j = k / 2 ^ (j + 1) + k / 2 ^ (j + 1) + k / 2 ^ j % 2 := by rw [Nat.pow_succ, ← Nat.div_div_eq_div_mul]; omega
    have h2 := hf _ _ h
    rw [← ptimes_add] at h2
    split
    · rename_i hb
      rw [hb] at e
      have h3 := hg _ _ h2
      have e2 : padd (ptimes (k / 2 ^ (j + 1) + k / 2 ^ (j + 1)) p) p = ptimes (k / 2 ^ j) p := (congrArg (fun n => ptimes n p) e).symm
      rw [e2] at h3
      exact h3
    · rw [e, show k / 2 ^ j % 2 = 0 by omega]
      exact h2
def timesC (q : Fq) (k : Nat) : Fq := runQ dblQ (fun a => addQ a q) k 256 (0, 1, 1, 0)
theorem div256 {k : Nat} (h : k < 115792089237316195423570985008687907853269984665640564039457584007913129639936) : k / 2 ^ 256 = 0 := Nat.div_eq_of_lt h
theorem timesC_rep {q : Fq} {p : Pt} (h : RepQ q p) {k : Nat} (hk : k < 115792089237316195423570985008687907853269984665640564039457584007913129639936) : RepQ (timesC q k) (ptimes k p) :=
  runQ_rep (fun _ _ h => dblQ_rep h) (fun _ _ h' => addQ_rep h' h) k 256 _ (by rw [div256 hk]; exact rep_zero)
theorem bit_at (k j : Nat) (hj : j < 256) : bitB k (j : Int) = decide (k / 2 ^ j % 2 = 1) := by
  unfold bitB
  rw [Bool.eq_iff_iff, decide_eq_true_eq, decide_eq_true_eq, Int.toNat_natCast]
  exact ⟨fun h => h.2.2, fun h => ⟨by omega, by omega, h⟩⟩
theorem Bit_k (k j : Nat) (hk : k < 115792089237316195423570985008687907853269984665640564039457584007913129639936) (hj : j < 256) (w : World) : Calls Tryd.prog 80 #[.agg (PB k), .int .i64 (j : Int)] w fun e w' => e = .returned (.bool (decide (k / 2 ^ j % 2 = 1))) ∧ Below w.heap.size w w' := by
  have h := Bit_sc (b32 k) (j : Int) w (b32_len k) (by omega) (by omega)
  rw [le_b32 k hk, bit_at k j hj] at h
  exact h
theorem zSc (w : World) : (zeroValue 67).run Tryd.prog w = .ok (.agg (PB 0)) w :=
  (zero_of_info (P := Tryd.prog) (t := 67) (v := .agg (PB 0)) (n := 32) (by kernel_rfl)).1 w
set_option maxRecDepth 100000 in
set_option maxHeartbeats 1000000 in
theorem timesQ_any (a b c d : Fp) (k : Nat) (tt : Fq) (hk : k < 115792089237316195423570985008687907853269984665640564039457584007913129639936) (htt : runQ dblQ (fun e => addQ e (a, b, c, d)) k 256 (0, 1, 1, 0) = tt) (w : World) :
    Calls Tryd.prog 60 #[.agg (FR a b c d), .agg (PB k)] w fun e w' => e = .returned (.agg (FR tt.1 tt.2.1 tt.2.2.1 tt.2.2.2)) ∧ Below w.heap.size w w' := by
  have HTT := Lib.hid (show runQ dblQ (fun e => addQ e (a, b, c, d)) k 256 (0, 1, 1, 0) = tt from htt)
  have HK := Lib.hid hk
  clear htt hk
  have hz0 := zFr
  have hz1 := zSc
  go_enter Tryd.func60, Tryd.ntmps60
  go_upto_region 1 with fail
  generalize hW1 : World.alloc _ _ = W1
  obtain ⟨N, hN⟩ : ∃ n, w.heap.size = n := ⟨_, rfl⟩
  have HX0 := Lib.hid (show CT W1 N 108 (FR a b c d) by subst hW1; rw [← hN]; exact (allocs3_at w _ _ _).1)
  have HX1 := Lib.hid (show CT W1 (N + 1) 67 (PB k) by subst hW1; rw [← hN]; exact (allocs3_at w _ _ _).2.1)
  have HX2 := Lib.hid (show CT W1 (N + 1 + 1) 108 (FR 0 0 0 0) by subst hW1; rw [← hN]; exact (allocs3_at w _ _ _).2.2)
  have HB := Lib.hid (show Below N w W1 by subst hW1; rw [← hN]; exact allocs3_below w _ _ _)
  have HN := Lib.hid hN
  rw [hN]
  clear hW1 hN
  go_upto_region 2 with fail
  refine wp_region_seq 1 ?_
  simp only [List.take_succ_cons, List.take_zero, List.drop_succ_cons, List.drop_zero]
  refine upW_call (by rfl) (by rfl) (.agg (FR 0 1 1 0)) _ rfl (by simp) (fun p => ?_) ?_
  · go_big_quiet_op
    exact ⟨_, fun q => Calls.ext_of (zero_any q.x), rfl⟩
  simp only [Act.put, List.setIfInBounds_toArray, List.set]
  refine upW_nil (fun wr1 hbr1 => ?_)
  replace HX0 := Lib.hid (HX0.out.ext hbr1)
  replace HX1 := Lib.hid (HX1.out.ext hbr1)
  replace HX2 := Lib.hid (HX2.out.ext hbr1)
  replace HB := Lib.hid (HB.out.trans (hbr1.mono (show N ≤ _ by have := HB.out.size; have := HN.out; omega)))
  clear hbr1
  refine wpList_new1 rfl 108 rfl (FR 0 0 0 0) zFr rfl _ _ rfl rfl (FR 0 1 1 0) 128 (FR_rw 0 1 1 0) (FR_rw 0 0 0 0).size (by kernel_rfl) rfl rfl (fun B2 wr2 hB2 hbr2 hCB2 => ?_)
  have HB2 := Lib.hid hCB2
  have hlB2X0 : N < B2 := by rw [← hB2]; exact HX0.out.lt
  have hlB2X1 : (N + 1) < B2 := by rw [← hB2]; exact HX1.out.lt
  have hlB2X2 : (N + 1 + 1) < B2 := by rw [← hB2]; exact HX2.out.lt
  have hNB2 : N ≤ B2 := by rw [← hB2]; have := HB.out.size; have := HN.out; omega
  clear hB2 hCB2
  simp only [Act.put, List.setIfInBounds_toArray, List.set]
  replace HX0 := Lib.hid (HX0.out.ext hbr2)
  replace HX1 := Lib.hid (HX1.out.ext hbr2)
  replace HX2 := Lib.hid (HX2.out.ext hbr2)
  replace HB := Lib.hid (HB.out.trans (hbr2.mono (show N ≤ _ by have := HB.out.size; have := HN.out; omega)))
  clear hbr2
  go_wp2_with fail
  go_loopw [8] (fun iv wr => ∃ (j : Nat) (acc : Fq), iv = .int .i64 ((j : Int) - 1) ∧ j ≤ 256 ∧ Hid (runQ dblQ (fun e => addQ e (a, b, c, d)) k j acc = tt) ∧ CT wr N 108 (FR a b c d) ∧ CT wr (N + 1) 67 (PB k) ∧ CT wr (N + 1 + 1) 108 (FR 0 0 0 0) ∧ CT wr B2 108 (FR acc.1 acc.2.1 acc.2.2.1 acc.2.2.2) ∧ Below N w wr) (fun i _ => (intOf i + 1).toNat)
  case atStart => exact ⟨256, (0, 1, 1, 0), rfl, Nat.le_refl _, HTT, HX0.out, HX1.out, HX2.out, HB2.out, HB.out⟩
  case round =>
    obtain ⟨j, ⟨x, y, z, t⟩, rfl, hj, HP, hh0, hh1, hh2, hh3, hbel⟩ := hrel
    clear HB HX0 HX1 HX2 HB2
    have HX0 := Lib.hid hh0
    have HX1 := Lib.hid hh1
    have HX2 := Lib.hid hh2
    have HB2 := Lib.hid hh3
    have HB := Lib.hid hbel
    clear hbel hh0 hh1 hh2 hh3
    simp only at HB2
    cases j with
    | zero =>
      have HRES := Lib.hid (show (x, y, z, t) = tt from HP.out)
      clear HP
      go_upto_region 9 with fail
      refine wp_region_seq 1 ?_
      simp only [List.take_succ_cons, List.take_zero, List.drop_succ_cons, List.drop_zero]
      refine upW_val (by rfl) (by rfl) (by rfl) (fun K hK => quiet_load_ct _ _ rfl B2 rfl 108 (FR x y z t) 128 (FR_rw x y z t) _ HB2.out Tryd.underlying108 rfl (by kernel_rfl) (hK _ ?_))
      simp only [Act.put, List.setIfInBounds_toArray, List.set]
      refine upW_nil (fun wr3 hbr3 => ?_)
      replace HX0 := Lib.hid (HX0.out.ext hbr3)
      replace HX1 := Lib.hid (HX1.out.ext hbr3)
      replace HX2 := Lib.hid (HX2.out.ext hbr3)
      replace HB2 := Lib.hid (HB2.out.ext hbr3)
      replace HB := Lib.hid (HB.out.trans (hbr3.mono (show N ≤ _ by have := HB.out.size; have := HN.out; omega)))
      clear hbr3
      refine wpList_store_ct rfl 108 _ _ rfl (N + 1 + 1) (FR x y z t) rfl rfl 108 (FR 0 0 0 0) 128 HX2.out (by kernel_rfl) (FR_rw 0 0 0 0) (FR_rw x y z t) rfl (fun wr4 hSwr4 hOwr4 hWwr4 => ?_)
      replace HX2 := Lib.hid hSwr4
      replace HB := Lib.hid (hWwr4 _ _ HB.out (by omega))
      replace HX0 := Lib.hid (HX0.out.other (hOwr4 _ (by omega)))
      replace HX1 := Lib.hid (HX1.out.other (hOwr4 _ (by omega)))
      replace HB2 := Lib.hid (HB2.out.other (hOwr4 _ (by omega)))
      clear hSwr4 hOwr4 hWwr4
      go_wp2
      refine bodyPost_ret (results_ct (by rfl) _ _ (N + 1 + 1) 108 (FR x y z t) 128 _ (by rfl) HX2.out (FR_rw x y z t) Tryd.underlying108 rfl (by kernel_rfl)) rfl ⟨by rw [← HRES.out], by rw [HN.out]; exact HB.out⟩
    | succ j =>
      have i0 : ((j + 1 : Nat) : Int) - 1 = (j : Int) := by omega
      rw [i0]
      have HJ := Lib.hid (show j < 256 by omega)
      obtain ⟨c1, hc1⟩ : ∃ zq : Fp, zq = ((x + y) * (x + y) - (y * y + x * x)) * ((z * z + z * z) - (y * y - x * x)) := ⟨_, rfl⟩
      have HE1 := Lib.hid hc1
      clear hc1
      obtain ⟨c2, hc2⟩ : ∃ zq : Fp, zq = (y * y + x * x) * (y * y - x * x) := ⟨_, rfl⟩
      have HE2 := Lib.hid hc2
      clear hc2
      obtain ⟨c3, hc3⟩ : ∃ zq : Fp, zq = (y * y - x * x) * ((z * z + z * z) - (y * y - x * x)) := ⟨_, rfl⟩
      have HE3 := Lib.hid hc3
      clear hc3
      obtain ⟨c4, hc4⟩ : ∃ zq : Fp, zq = ((x + y) * (x + y) - (y * y + x * x)) * (y * y + x * x) := ⟨_, rfl⟩
      have HE4 := Lib.hid hc4
      clear hc4
      have HQ5 := Lib.hid (fun w => double_any x y z t w)
      rw [← HE1.out, ← HE2.out, ← HE3.out, ← HE4.out] at HQ5
      have HQB := Lib.hid (fun w => Bit_k k j HK.out HJ.out w)
      obtain ⟨bb, hbb⟩ : ∃ b, decide (k / 2 ^ j % 2 = 1) = b := ⟨_, rfl⟩
      rw [hbb] at HQB
      cases bb with
      | false =>
        have HBB := Lib.hid (show ¬ k / 2 ^ j % 2 = 1 from of_decide_eq_false hbb)
        clear hbb
        have HP2 := Lib.hid (show runQ dblQ (fun e => addQ e (a, b, c, d)) k j (c1, c2, c3, c4) = tt by
          have h := HP.out
          rw [runQ, if_neg HBB.out] at h
          simp only [HE1.out, HE2.out, HE3.out, HE4.out]
          exact h)
        clear HP HBB
        go_upto_region 6 with fail
        refine wp_region_seq 3 ?_
        simp only [List.take_succ_cons, List.take_zero, List.drop_succ_cons, List.drop_zero]
        refine upW_val (by rfl) (by rfl) (by rfl) ?_
        intro K hK
        go_big_quiet_op
        refine hK _ ?_
        refine upW_val (by rfl) (by rfl) (by rfl) (fun K hK => quiet_load_ct _ _ rfl B2 rfl 108 (FR x y z t) 128 (FR_rw x y z t) _ HB2.out Tryd.underlying108 rfl (by kernel_rfl) (hK _ ?_))
        simp only [Act.put, List.setIfInBounds_toArray, List.set]
        refine upW_call (by rfl) (by rfl) (.agg (FR c1 c2 c3 c4)) _ rfl (by simp) (fun p => ?_) ?_
        · go_big_quiet_op
          exact ⟨_, fun q => Calls.ext_of (HQ5.out q.x), rfl⟩
        simp only [Act.put, List.setIfInBounds_toArray, List.set]
        refine upW_nil (fun wr5 hbr5 => ?_)
        replace HX0 := Lib.hid (HX0.out.ext hbr5)
        replace HX1 := Lib.hid (HX1.out.ext hbr5)
        replace HX2 := Lib.hid (HX2.out.ext hbr5)
        replace HB2 := Lib.hid (HB2.out.ext hbr5)
        replace HB := Lib.hid (HB.out.trans (hbr5.mono (show N ≤ _ by have := HB.out.size; have := HN.out; omega)))
        clear hbr5
        refine wpList_store_ct rfl 108 _ _ rfl B2 (FR c1 c2 c3 c4) rfl rfl 108 (FR x y z t) 128 HB2.out (by kernel_rfl) (FR_rw x y z t) (FR_rw c1 c2 c3 c4) rfl (fun wr6 hSwr6 hOwr6 hWwr6 => ?_)
        replace HB2 := Lib.hid hSwr6
        replace HB := Lib.hid (hWwr6 _ _ HB.out (by omega))
        replace HX0 := Lib.hid (HX0.out.other (hOwr6 _ (by omega)))
        replace HX1 := Lib.hid (HX1.out.other (hOwr6 _ (by omega)))
        replace HX2 := Lib.hid (HX2.out.other (hOwr6 _ (by omega)))
        clear hSwr6 hOwr6 hWwr6
        go_upto_region 7 with fail
        refine wp_region_seq 3 ?_
        simp only [List.take_succ_cons, List.take_zero, List.drop_succ_cons, List.drop_zero]
        refine upW_val (by rfl) (by rfl) (by rfl) (fun K hK => quiet_load_ct _ _ rfl (N + 1) rfl 67 (PB k) 32 (PB_rw k) _ HX1.out Tryd.underlying67 rfl (by kernel_rfl) (hK _ ?_))
        simp only [Act.put, List.setIfInBounds_toArray, List.set]
        refine upW_val (by rfl) (by rfl) (by rfl) ?_
        intro K hK
        go_big_quiet_op
        refine hK _ ?_
        refine upW_call (by rfl) (by rfl) (.bool false) _ rfl (by simp) (fun p => ?_) ?_
        · go_big_quiet_op
          exact ⟨_, fun q => Calls.ext_of (HQB.out q.x), rfl⟩
        simp only [Act.put, List.setIfInBounds_toArray, List.set]
        refine upW_nil (fun wr7 hbr7 => ?_)
        replace HX0 := Lib.hid (HX0.out.ext hbr7)
        replace HX1 := Lib.hid (HX1.out.ext hbr7)
        replace HX2 := Lib.hid (HX2.out.ext hbr7)
        replace HB2 := Lib.hid (HB2.out.ext hbr7)
        replace HB := Lib.hid (HB.out.trans (hbr7.mono (show N ≤ _ by have := HB.out.size; have := HN.out; omega)))
        clear hbr7
        go_wp2_with fail
        go_roundw
        case rel => exact ⟨j, (c1, c2, c3, c4), rfl, by omega, HP2, HX0.out, HX1.out, HX2.out, HB2.out, HB.out⟩
        case measure => simp [intOf]
      | true =>
        have HBB := Lib.hid (show k / 2 ^ j % 2 = 1 from of_decide_eq_true hbb)
        clear hbb
        obtain ⟨c6, hc6⟩ : ∃ zq : Fp, zq = (((c2 + c1) * (b + a)) - ((c2 - c1) * (b - a))) * ((c3 * c + c3 * c) - (cD * (c4 * d) + cD * (c4 * d))) := ⟨_, rfl⟩
        have HE6 := Lib.hid hc6
        clear hc6
        obtain ⟨c7, hc7⟩ : ∃ zq : Fp, zq = (((c2 + c1) * (b + a)) + ((c2 - c1) * (b - a))) * ((c3 * c + c3 * c) + (cD * (c4 * d) + cD * (c4 * d))) := ⟨_, rfl⟩
        have HE7 := Lib.hid hc7
        clear hc7
        obtain ⟨c8, hc8⟩ : ∃ zq : Fp, zq = ((c3 * c + c3 * c) + (cD * (c4 * d) + cD * (c4 * d))) * ((c3 * c + c3 * c) - (cD * (c4 * d) + cD * (c4 * d))) := ⟨_, rfl⟩
        have HE8 := Lib.hid hc8
        clear hc8
        obtain ⟨c9, hc9⟩ : ∃ zq : Fp, zq = (((c2 + c1) * (b + a)) - ((c2 - c1) * (b - a))) * (((c2 + c1) * (b + a)) + ((c2 - c1) * (b - a))) := ⟨_, rfl⟩
        have HE9 := Lib.hid hc9
        clear hc9
        have HQ10 := Lib.hid (fun w => add_any c1 c2 c3 c4 a b c d w)
        rw [← HE6.out, ← HE7.out, ← HE8.out, ← HE9.out] at HQ10
        have HP2 := Lib.hid (show runQ dblQ (fun e => addQ e (a, b, c, d)) k j (c6, c7, c8, c9) = tt by
          have h := HP.out
          rw [runQ, if_pos HBB.out] at h
          simp only [HE1.out, HE2.out, HE3.out, HE4.out, HE6.out, HE7.out, HE8.out, HE9.out]
          exact h)
        clear HP HBB
        go_upto_region 6 with fail
        refine wp_region_seq 3 ?_
        simp only [List.take_succ_cons, List.take_zero, List.drop_succ_cons, List.drop_zero]
        refine upW_val (by rfl) (by rfl) (by rfl) ?_
        intro K hK
        go_big_quiet_op
        refine hK _ ?_
        refine upW_val (by rfl) (by rfl) (by rfl) (fun K hK => quiet_load_ct _ _ rfl B2 rfl 108 (FR x y z t) 128 (FR_rw x y z t) _ HB2.out Tryd.underlying108 rfl (by kernel_rfl) (hK _ ?_))
        simp only [Act.put, List.setIfInBounds_toArray, List.set]
        refine upW_call (by rfl) (by rfl) (.agg (FR c1 c2 c3 c4)) _ rfl (by simp) (fun p => ?_) ?_
        · go_big_quiet_op
          exact ⟨_, fun q => Calls.ext_of (HQ5.out q.x), rfl⟩
        simp only [Act.put, List.setIfInBounds_toArray, List.set]
        refine upW_nil (fun wr5 hbr5 => ?_)
        replace HX0 := Lib.hid (HX0.out.ext hbr5)
        replace HX1 := Lib.hid (HX1.out.ext hbr5)
        replace HX2 := Lib.hid (HX2.out.ext hbr5)
        replace HB2 := Lib.hid (HB2.out.ext hbr5)
        replace HB := Lib.hid (HB.out.trans (hbr5.mono (show N ≤ _ by have := HB.out.size; have := HN.out; omega)))
        clear hbr5
        refine wpList_store_ct rfl 108 _ _ rfl B2 (FR c1 c2 c3 c4) rfl rfl 108 (FR x y z t) 128 HB2.out (by kernel_rfl) (FR_rw x y z t) (FR_rw c1 c2 c3 c4) rfl (fun wr6 hSwr6 hOwr6 hWwr6 => ?_)
        replace HB2 := Lib.hid hSwr6
        replace HB := Lib.hid (hWwr6 _ _ HB.out (by omega))
        replace HX0 := Lib.hid (HX0.out.other (hOwr6 _ (by omega)))
        replace HX1 := Lib.hid (HX1.out.other (hOwr6 _ (by omega)))
        replace HX2 := Lib.hid (HX2.out.other (hOwr6 _ (by omega)))
        clear hSwr6 hOwr6 hWwr6
        go_upto_region 7 with fail
        refine wp_region_seq 3 ?_
        simp only [List.take_succ_cons, List.take_zero, List.drop_succ_cons, List.drop_zero]
        refine upW_val (by rfl) (by rfl) (by rfl) (fun K hK => quiet_load_ct _ _ rfl (N + 1) rfl 67 (PB k) 32 (PB_rw k) _ HX1.out Tryd.underlying67 rfl (by kernel_rfl) (hK _ ?_))
        simp only [Act.put, List.setIfInBounds_toArray, List.set]
        refine upW_val (by rfl) (by rfl) (by rfl) ?_
        intro K hK
        go_big_quiet_op
        refine hK _ ?_
        refine upW_call (by rfl) (by rfl) (.bool true) _ rfl (by simp) (fun p => ?_) ?_
        · go_big_quiet_op
          exact ⟨_, fun q => Calls.ext_of (HQB.out q.x), rfl⟩
        simp only [Act.put, List.setIfInBounds_toArray, List.set]
        refine upW_nil (fun wr8 hbr8 => ?_)
        replace HX0 := Lib.hid (HX0.out.ext hbr8)
        replace HX1 := Lib.hid (HX1.out.ext hbr8)
        replace HX2 := Lib.hid (HX2.out.ext hbr8)
        replace HB2 := Lib.hid (HB2.out.ext hbr8)
        replace HB := Lib.hid (HB.out.trans (hbr8.mono (show N ≤ _ by have := HB.out.size; have := HN.out; omega)))
        clear hbr8
        go_upto_region 8 with fail
        refine wp_region_seq 4 ?_
        simp only [List.take_succ_cons, List.take_zero, List.drop_succ_cons, List.drop_zero]
        refine upW_val (by rfl) (by rfl) (by rfl) ?_
        intro K hK
        go_big_quiet_op
        refine hK _ ?_
        refine upW_val (by rfl) (by rfl) (by rfl) (fun K hK => quiet_load_ct _ _ rfl B2 rfl 108 (FR c1 c2 c3 c4) 128 (FR_rw c1 c2 c3 c4) _ HB2.out Tryd.underlying108 rfl (by kernel_rfl) (hK _ ?_))
        simp only [Act.put, List.setIfInBounds_toArray, List.set]
        refine upW_val (by rfl) (by rfl) (by rfl) (fun K hK => quiet_load_ct _ _ rfl N rfl 108 (FR a b c d) 128 (FR_rw a b c d) _ HX0.out Tryd.underlying108 rfl (by kernel_rfl) (hK _ ?_))
        simp only [Act.put, List.setIfInBounds_toArray, List.set]
        refine upW_call (by rfl) (by rfl) (.agg (FR c6 c7 c8 c9)) _ rfl (by simp) (fun p => ?_) ?_
        · go_big_quiet_op
          exact ⟨_, fun q => Calls.ext_of (HQ10.out q.x), rfl⟩
        simp only [Act.put, List.setIfInBounds_toArray, List.set]
        refine upW_nil (fun wr9 hbr9 => ?_)
        replace HX0 := Lib.hid (HX0.out.ext hbr9)
        replace HX1 := Lib.hid (HX1.out.ext hbr9)
        replace HX2 := Lib.hid (HX2.out.ext hbr9)
        replace HB2 := Lib.hid (HB2.out.ext hbr9)
        replace HB := Lib.hid (HB.out.trans (hbr9.mono (show N ≤ _ by have := HB.out.size; have := HN.out; omega)))
        clear hbr9
        refine wpList_store_ct rfl 108 _ _ rfl B2 (FR c6 c7 c8 c9) rfl rfl 108 (FR c1 c2 c3 c4) 128 HB2.out (by kernel_rfl) (FR_rw c1 c2 c3 c4) (FR_rw c6 c7 c8 c9) rfl (fun wr10 hSwr10 hOwr10 hWwr10 => ?_)
        replace HB2 := Lib.hid hSwr10
        replace HB := Lib.hid (hWwr10 _ _ HB.out (by omega))
        replace HX0 := Lib.hid (HX0.out.other (hOwr10 _ (by omega)))
        replace HX1 := Lib.hid (HX1.out.other (hOwr10 _ (by omega)))
        replace HX2 := Lib.hid (HX2.out.other (hOwr10 _ (by omega)))
        clear hSwr10 hOwr10 hWwr10
        go_wp2_with fail
        go_roundw
        case rel => exact ⟨j, (c6, c7, c8, c9), rfl, by omega, HP2, HX0.out, HX1.out, HX2.out, HB2.out, HB.out⟩
        case measure => simp [intOf]
end Go.Proofs.YtlpchgoaoglhcaaDoor
namespace Go.Proofs.YtlpchgoaoglhcaaDoor
open Go.RowKit
set_option linter.unusedSimpArgs false
set_option linter.unusedVariables false
theorem eq_finv {x q z : Fp} (h : z ≠ 0) (e : x = q * z) : x * finv z = q := by
  have := finv_mul h
  grind
theorem rep_point {x y z t : Fp} {p : Pt} (h : Rep x y z t p) : encXY (x * finv z) (y * finv z) = pN p := by
  rw [eq_finv h.z0 h.hx, eq_finv h.z0 h.hy]; rfl
theorem repQ_point {q : Fq} {p : Pt} (h : RepQ q p) : encXY (q.1 * finv q.2.2.1) (q.2.1 * finv q.2.2.1) = pN p := rep_point h
theorem addP_rep {x y z t x' y' z' t' : Fp} {p q : Pt} (h : Rep x y z t p) (h' : Rep x' y' z' t' q) : Rep ((((y + x) * (y' + x')) - ((y - x) * (y' - x'))) * ((z * z' + z * z') - (cD * (t * t') + cD * (t * t')))) ((((y + x) * (y' + x')) + ((y - x) * (y' - x'))) * ((z * z' + z * z') + (cD * (t * t') + cD * (t * t')))) (((z * z' + z * z') + (cD * (t * t') + cD * (t * t'))) * ((z * z' + z * z') - (cD * (t * t') + cD * (t * t')))) ((((y + x) * (y' + x')) - ((y - x) * (y' - x'))) * (((y + x) * (y' + x')) + ((y - x) * (y' - x')))) (padd p q) := Rep.sum h h'
theorem flatQ (p : Pt) : RepQ (p.x, p.y, 1, p.x * p.y) p := rep_flat p
set_option maxRecDepth 100000 in
set_option maxHeartbeats 1000000 in
theorem read_ok (p : Pt) (w : World) :
    Calls Tryd.prog 59 #[.agg (PB (pN p))] w fun e w' => e = .returned (.tuple #[.agg (FR p.x p.y 1 (p.x * p.y)), .bool true]) ∧ Below w.heap.size w w' := by
  have HQ1 := Lib.hid (fun w => XY_ok p w)
  obtain ⟨c2, hc2⟩ : ∃ zq : Fp, zq = p.x * p.y := ⟨_, rfl⟩
  have HE2 := Lib.hid hc2
  clear hc2
  have HQ3 := Lib.hid (fun w => IsN.mul (isN_NB p.x) (isN_NB p.y) w)
  rw [← HE2.out] at HQ3
  have hz0 := zFr
  have hz1 := zNu
  go_enter Tryd.func59, Tryd.ntmps59
  go_upto_region 1 with fail
  generalize hW1 : World.alloc _ _ = W1
  obtain ⟨N, hN⟩ : ∃ n, w.heap.size = n := ⟨_, rfl⟩
  have HX0 := Lib.hid (show CT W1 N 68 (PB (pN p)) by subst hW1; rw [← hN]; exact (allocs2_at w _ _).1)
  have HX1 := Lib.hid (show CT W1 (N + 1) 108 (FR 0 0 0 0) by subst hW1; rw [← hN]; exact (allocs2_at w _ _).2)
  have HB := Lib.hid (show Below N w W1 by subst hW1; rw [← hN]; exact allocs2_below w _ _)
  have HN := Lib.hid hN
  rw [hN]
  clear hW1 hN
  refine wp_region_seq 6 ?_
  simp only [List.take_succ_cons, List.take_zero, List.drop_succ_cons, List.drop_zero]
  refine upW_val (by rfl) (by rfl) (by rfl) (fun K hK => quiet_load_ct _ _ rfl N rfl 68 (PB (pN p)) 32 (PB_rw (pN p)) _ HX0.out Tryd.underlying68 rfl (by kernel_rfl) (hK _ ?_))
  simp only [Act.put, List.setIfInBounds_toArray, List.set]
  refine upW_call (by rfl) (by rfl) (.tuple #[.agg (NB p.x), .agg (NB p.y), .bool true]) _ rfl (by simp) (fun p => ?_) ?_
  · go_big_quiet_op
    exact ⟨_, fun q => Calls.ext_of (HQ1.out q.x), rfl⟩
  simp only [Act.put, List.setIfInBounds_toArray, List.set]
  refine upW_val (by rfl) (by rfl) (by rfl) ?_
  intro K hK
  go_big_quiet_op
  refine hK _ ?_
  refine upW_late (by rfl) (.agg (NB p.x)) (fun _ => rfl) ?_
  simp only [Act.put, List.setIfInBounds_toArray, List.set]
  refine upW_late (by rfl) (.agg (NB p.y)) (fun _ => rfl) ?_
  simp only [Act.put, List.setIfInBounds_toArray, List.set]
  refine upW_late (by rfl) (.bool true) (fun _ => rfl) ?_
  simp only [Act.put, List.setIfInBounds_toArray, List.set]
  refine upW_nil (fun wr1 hbr1 => ?_)
  replace HX0 := Lib.hid (HX0.out.ext hbr1)
  replace HX1 := Lib.hid (HX1.out.ext hbr1)
  replace HB := Lib.hid (HB.out.trans (hbr1.mono (show N ≤ _ by have := HB.out.size; have := HN.out; omega)))
  clear hbr1
  refine wpList_new2 rfl rfl 102 rfl rfl (NB 0) zNu rfl rfl _ _ _ _ rfl rfl (NB p.x) (NB p.y) 32 (NB_rw p.x) (NB_rw p.y) (NB_rw 0).size (by kernel_rfl) rfl rfl rfl rfl rfl rfl (fun B2a B2b wr2 hB2a hB2b hbr2 hCB2a hCB2b => ?_)
  have HB2a := Lib.hid hCB2a
  have HB2b := Lib.hid hCB2b
  have hlB2aX0 : N < B2a := by rw [← hB2a]; exact HX0.out.lt
  have hlB2bX0 : N < B2b := by omega
  have hlB2aX1 : (N + 1) < B2a := by rw [← hB2a]; exact HX1.out.lt
  have hlB2bX1 : (N + 1) < B2b := by omega
  have hNB2a : N ≤ B2a := by rw [← hB2a]; have := HB.out.size; have := HN.out; omega
  have hNB2b : N ≤ B2b := by omega
  clear hB2a hCB2a hCB2b
  simp only [Act.put, List.setIfInBounds_toArray, List.set]
  replace HX0 := Lib.hid (HX0.out.ext hbr2)
  replace HX1 := Lib.hid (HX1.out.ext hbr2)
  replace HB := Lib.hid (HB.out.trans (hbr2.mono (show N ≤ _ by have := HB.out.size; have := HN.out; omega)))
  clear hbr2
  go_upto_region 4 with fail
  refine wp_region_upT 7 _ (by kernel_rfl) (by kernel_rfl) rfl (by kernel_rfl) (fun _ _ dst _ _ h => by cases dst <;> exact h) ?_
  simp only [List.take_succ_cons, List.take_zero, List.drop_succ_cons, List.drop_zero]
  refine upW_val (by rfl) (by rfl) (by rfl) (fun K hK => quiet_load_ct _ _ rfl B2a rfl 102 (NB p.x) 32 (NB_rw p.x) _ HB2a.out Tryd.underlying102 rfl (by kernel_rfl) (hK _ ?_))
  simp only [Act.put, List.setIfInBounds_toArray, List.set]
  refine upW_val (by rfl) (by rfl) (by rfl) (fun K hK => quiet_load_ct _ _ rfl B2b rfl 102 (NB p.y) 32 (NB_rw p.y) _ HB2b.out Tryd.underlying102 rfl (by kernel_rfl) (hK _ ?_))
  simp only [Act.put, List.setIfInBounds_toArray, List.set]
  refine upW_call (by rfl) (by rfl) (.agg (NB 1)) _ rfl (by simp) (fun p => ?_) ?_
  · go_big_quiet_op
    exact ⟨_, fun q => Calls.ext_of (Of_one q.x), rfl⟩
  simp only [Act.put, List.setIfInBounds_toArray, List.set]
  refine upW_val (by rfl) (by rfl) (by rfl) (fun K hK => quiet_load_ct _ _ rfl B2a rfl 102 (NB p.x) 32 (NB_rw p.x) _ HB2a.out Tryd.underlying102 rfl (by kernel_rfl) (hK _ ?_))
  simp only [Act.put, List.setIfInBounds_toArray, List.set]
  refine upW_val (by rfl) (by rfl) (by rfl) (fun K hK => quiet_load_ct _ _ rfl B2b rfl 102 (NB p.y) 32 (NB_rw p.y) _ HB2b.out Tryd.underlying102 rfl (by kernel_rfl) (hK _ ?_))
  simp only [Act.put, List.setIfInBounds_toArray, List.set]
  refine upW_call (by rfl) (by rfl) (.agg (NB c2)) _ rfl (by simp) (fun p => ?_) ?_
  · go_big_quiet_op
    exact ⟨_, fun q => Calls.ext_of (HQ3.out q.x), rfl⟩
  simp only [Act.put, List.setIfInBounds_toArray, List.set]
  refine upW_late (by rfl) (.agg (FR p.x p.y 1 c2)) (fun w => run_made_F _ _ _ _ _ _ rfl p.x p.y 1 c2 rfl rfl rfl rfl w) ?_
  simp only [Act.put, List.setIfInBounds_toArray, List.set]
  refine upW_nil (fun wr3 hbr3 => ?_)
  replace HX0 := Lib.hid (HX0.out.ext hbr3)
  replace HX1 := Lib.hid (HX1.out.ext hbr3)
  replace HB2a := Lib.hid (HB2a.out.ext hbr3)
  replace HB2b := Lib.hid (HB2b.out.ext hbr3)
  replace HB := Lib.hid (HB.out.trans (hbr3.mono (show N ≤ _ by have := HB.out.size; have := HN.out; omega)))
  clear hbr3
  refine wpList_store_ct rfl 108 _ _ rfl (N + 1) (FR p.x p.y 1 c2) rfl rfl 108 (FR 0 0 0 0) 128 HX1.out (by kernel_rfl) (FR_rw 0 0 0 0) (FR_rw p.x p.y 1 c2) rfl (fun wr4 hSwr4 hOwr4 hWwr4 => ?_)
  replace HX1 := Lib.hid hSwr4
  replace HB := Lib.hid (hWwr4 _ _ HB.out (by omega))
  replace HX0 := Lib.hid (HX0.out.other (hOwr4 _ (by omega)))
  replace HB2a := Lib.hid (HB2a.out.other (hOwr4 _ (by omega)))
  replace HB2b := Lib.hid (HB2b.out.other (hOwr4 _ (by omega)))
  clear hSwr4 hOwr4 hWwr4
  go_wp2
  refine bodyPost_ret (results_ct_slot (p := 2) (q := 3) (by rfl) _ _ (N + 1) 108 (FR p.x p.y 1 c2) 128 _ (.bool true) (by rfl) HX1.out (FR_rw p.x p.y 1 c2) Tryd.underlying108 rfl (by kernel_rfl) rfl) rfl ⟨by first | rfl | (simp only [HE2.out]), by rw [HN.out]; exact HB.out⟩
set_option maxRecDepth 100000 in
set_option maxHeartbeats 1000000 in
theorem Neg_ok (p : Pt) (w : World) :
    Calls Tryd.prog 43 #[.agg (PB (pN p))] w fun e w' => e = .returned (.tuple #[.agg (PB (pN (pneg p))), .bool true]) ∧ Below w.heap.size w w' := by
  have HQ1 := Lib.hid (fun w => XY_ok p w)
  obtain ⟨c2, hc2⟩ : ∃ zq : Fp, zq = -p.x := ⟨_, rfl⟩
  have HE2 := Lib.hid hc2
  clear hc2
  have HQ3 := Lib.hid (fun w => IsN.neg (isN_NB p.x) w)
  rw [← HE2.out] at HQ3
  have HQ4 := Lib.hid (fun w => encode_any (isN_NB c2) (isN_NB p.y) w)
  have hz0 := zPt
  have hz1 := zNu
  go_enter Tryd.func43, Tryd.ntmps43
  go_upto_region 1 with fail
  generalize hW1 : World.alloc _ _ = W1
  obtain ⟨N, hN⟩ : ∃ n, w.heap.size = n := ⟨_, rfl⟩
  have HX0 := Lib.hid (show CT W1 N 68 (PB (pN p)) by subst hW1; rw [← hN]; exact (allocs2_at w _ _).1)
  have HX1 := Lib.hid (show CT W1 (N + 1) 68 (PB 0) by subst hW1; rw [← hN]; exact (allocs2_at w _ _).2)
  have HB := Lib.hid (show Below N w W1 by subst hW1; rw [← hN]; exact allocs2_below w _ _)
  have HN := Lib.hid hN
  rw [hN]
  clear hW1 hN
  refine wp_region_seq 6 ?_
  simp only [List.take_succ_cons, List.take_zero, List.drop_succ_cons, List.drop_zero]
  refine upW_val (by rfl) (by rfl) (by rfl) (fun K hK => quiet_load_ct _ _ rfl N rfl 68 (PB (pN p)) 32 (PB_rw (pN p)) _ HX0.out Tryd.underlying68 rfl (by kernel_rfl) (hK _ ?_))
  simp only [Act.put, List.setIfInBounds_toArray, List.set]
  refine upW_call (by rfl) (by rfl) (.tuple #[.agg (NB p.x), .agg (NB p.y), .bool true]) _ rfl (by simp) (fun p => ?_) ?_
  · go_big_quiet_op
    exact ⟨_, fun q => Calls.ext_of (HQ1.out q.x), rfl⟩
  simp only [Act.put, List.setIfInBounds_toArray, List.set]
  refine upW_val (by rfl) (by rfl) (by rfl) ?_
  intro K hK
  go_big_quiet_op
  refine hK _ ?_
  refine upW_late (by rfl) (.agg (NB p.x)) (fun _ => rfl) ?_
  simp only [Act.put, List.setIfInBounds_toArray, List.set]
  refine upW_late (by rfl) (.agg (NB p.y)) (fun _ => rfl) ?_
  simp only [Act.put, List.setIfInBounds_toArray, List.set]
  refine upW_late (by rfl) (.bool true) (fun _ => rfl) ?_
  simp only [Act.put, List.setIfInBounds_toArray, List.set]
  refine upW_nil (fun wr1 hbr1 => ?_)
  replace HX0 := Lib.hid (HX0.out.ext hbr1)
  replace HX1 := Lib.hid (HX1.out.ext hbr1)
  replace HB := Lib.hid (HB.out.trans (hbr1.mono (show N ≤ _ by have := HB.out.size; have := HN.out; omega)))
  clear hbr1
  refine wpList_new2 rfl rfl 102 rfl rfl (NB 0) zNu rfl rfl _ _ _ _ rfl rfl (NB p.x) (NB p.y) 32 (NB_rw p.x) (NB_rw p.y) (NB_rw 0).size (by kernel_rfl) rfl rfl rfl rfl rfl rfl (fun B2a B2b wr2 hB2a hB2b hbr2 hCB2a hCB2b => ?_)
  have HB2a := Lib.hid hCB2a
  have HB2b := Lib.hid hCB2b
  have hlB2aX0 : N < B2a := by rw [← hB2a]; exact HX0.out.lt
  have hlB2bX0 : N < B2b := by omega
  have hlB2aX1 : (N + 1) < B2a := by rw [← hB2a]; exact HX1.out.lt
  have hlB2bX1 : (N + 1) < B2b := by omega
  have hNB2a : N ≤ B2a := by rw [← hB2a]; have := HB.out.size; have := HN.out; omega
  have hNB2b : N ≤ B2b := by omega
  clear hB2a hCB2a hCB2b
  simp only [Act.put, List.setIfInBounds_toArray, List.set]
  replace HX0 := Lib.hid (HX0.out.ext hbr2)
  replace HX1 := Lib.hid (HX1.out.ext hbr2)
  replace HB := Lib.hid (HB.out.trans (hbr2.mono (show N ≤ _ by have := HB.out.size; have := HN.out; omega)))
  clear hbr2
  go_upto_region 4 with fail
  refine wp_region_upT 4 _ (by kernel_rfl) (by kernel_rfl) rfl (by kernel_rfl) (fun _ _ dst _ _ h => by cases dst <;> exact h) ?_
  simp only [List.take_succ_cons, List.take_zero, List.drop_succ_cons, List.drop_zero]
  refine upW_val (by rfl) (by rfl) (by rfl) (fun K hK => quiet_load_ct _ _ rfl B2a rfl 102 (NB p.x) 32 (NB_rw p.x) _ HB2a.out Tryd.underlying102 rfl (by kernel_rfl) (hK _ ?_))
  simp only [Act.put, List.setIfInBounds_toArray, List.set]
  refine upW_call (by rfl) (by rfl) (.agg (NB c2)) _ rfl (by simp) (fun p => ?_) ?_
  · go_big_quiet_op
    exact ⟨_, fun q => Calls.ext_of (HQ3.out q.x), rfl⟩
  simp only [Act.put, List.setIfInBounds_toArray, List.set]
  refine upW_val (by rfl) (by rfl) (by rfl) (fun K hK => quiet_load_ct _ _ rfl B2b rfl 102 (NB p.y) 32 (NB_rw p.y) _ HB2b.out Tryd.underlying102 rfl (by kernel_rfl) (hK _ ?_))
  simp only [Act.put, List.setIfInBounds_toArray, List.set]
  refine upW_call (by rfl) (by rfl) (.agg (PB (encXY c2 p.y))) _ rfl (by simp) (fun p => ?_) ?_
  · go_big_quiet_op
    exact ⟨_, fun q => Calls.ext_of (HQ4.out q.x), rfl⟩
  simp only [Act.put, List.setIfInBounds_toArray, List.set]
  refine upW_nil (fun wr3 hbr3 => ?_)
  replace HX0 := Lib.hid (HX0.out.ext hbr3)
  replace HX1 := Lib.hid (HX1.out.ext hbr3)
  replace HB2a := Lib.hid (HB2a.out.ext hbr3)
  replace HB2b := Lib.hid (HB2b.out.ext hbr3)
  replace HB := Lib.hid (HB.out.trans (hbr3.mono (show N ≤ _ by have := HB.out.size; have := HN.out; omega)))
  clear hbr3
  refine wpList_store_ct rfl 68 _ _ rfl (N + 1) (PB (encXY c2 p.y)) rfl rfl 68 (PB 0) 32 HX1.out (by kernel_rfl) (PB_rw 0) (PB_rw (encXY c2 p.y)) rfl (fun wr4 hSwr4 hOwr4 hWwr4 => ?_)
  replace HX1 := Lib.hid hSwr4
  replace HB := Lib.hid (hWwr4 _ _ HB.out (by omega))
  replace HX0 := Lib.hid (HX0.out.other (hOwr4 _ (by omega)))
  replace HB2a := Lib.hid (HB2a.out.other (hOwr4 _ (by omega)))
  replace HB2b := Lib.hid (HB2b.out.other (hOwr4 _ (by omega)))
  clear hSwr4 hOwr4 hWwr4
  go_wp2
  refine bodyPost_ret (results_ct_slot (p := 2) (q := 3) (by rfl) _ _ (N + 1) 68 (PB (encXY c2 p.y)) 32 _ (.bool true) (by rfl) HX1.out (PB_rw (encXY c2 p.y)) Tryd.underlying68 rfl (by kernel_rfl) rfl) rfl ⟨congrArg (fun k => Ending.returned (.tuple #[.agg (PB k), .bool true])) (by simp only [HE2.out]; rfl), by rw [HN.out]; exact HB.out⟩
set_option maxRecDepth 100000 in
set_option maxHeartbeats 1000000 in
theorem Neg_no (n : Nat) (hn : n < 115792089237316195423570985008687907853269984665640564039457584007913129639936) (gn : ∀ p : Pt, pN p ≠ n) (w : World) :
    Calls Tryd.prog 43 #[.agg (PB n)] w fun e w' => e = .returned (.tuple #[.agg (PB 0), .bool false]) ∧ Below w.heap.size w w' := by
  have HLn := Lib.hid hn
  have HNn := Lib.hid gn
  clear hn gn
  have HQ1 := Lib.hid (fun w => XY_no n HLn.out HNn.out w)
  have hz0 := zPt
  have hz1 := zNu
  go_enter Tryd.func43, Tryd.ntmps43
  go_upto_region 1 with fail
  generalize hW1 : World.alloc _ _ = W1
  obtain ⟨N, hN⟩ : ∃ n, w.heap.size = n := ⟨_, rfl⟩
  have HX0 := Lib.hid (show CT W1 N 68 (PB n) by subst hW1; rw [← hN]; exact (allocs2_at w _ _).1)
  have HX1 := Lib.hid (show CT W1 (N + 1) 68 (PB 0) by subst hW1; rw [← hN]; exact (allocs2_at w _ _).2)
  have HB := Lib.hid (show Below N w W1 by subst hW1; rw [← hN]; exact allocs2_below w _ _)
  have HN := Lib.hid hN
  rw [hN]
  clear hW1 hN
  refine wp_region_seq 6 ?_
  simp only [List.take_succ_cons, List.take_zero, List.drop_succ_cons, List.drop_zero]
  refine upW_val (by rfl) (by rfl) (by rfl) (fun K hK => quiet_load_ct _ _ rfl N rfl 68 (PB n) 32 (PB_rw n) _ HX0.out Tryd.underlying68 rfl (by kernel_rfl) (hK _ ?_))
  simp only [Act.put, List.setIfInBounds_toArray, List.set]
  refine upW_call (by rfl) (by rfl) (.tuple #[.agg (NB 0), .agg (NB 0), .bool false]) _ rfl (by simp) (fun p => ?_) ?_
  · go_big_quiet_op
    exact ⟨_, fun q => Calls.ext_of (HQ1.out q.x), rfl⟩
  simp only [Act.put, List.setIfInBounds_toArray, List.set]
  refine upW_val (by rfl) (by rfl) (by rfl) ?_
  intro K hK
  go_big_quiet_op
  refine hK _ ?_
  refine upW_late (by rfl) (.agg (NB 0)) (fun _ => rfl) ?_
  simp only [Act.put, List.setIfInBounds_toArray, List.set]
  refine upW_late (by rfl) (.agg (NB 0)) (fun _ => rfl) ?_
  simp only [Act.put, List.setIfInBounds_toArray, List.set]
  refine upW_late (by rfl) (.bool false) (fun _ => rfl) ?_
  simp only [Act.put, List.setIfInBounds_toArray, List.set]
  refine upW_nil (fun wr1 hbr1 => ?_)
  replace HX0 := Lib.hid (HX0.out.ext hbr1)
  replace HX1 := Lib.hid (HX1.out.ext hbr1)
  replace HB := Lib.hid (HB.out.trans (hbr1.mono (show N ≤ _ by have := HB.out.size; have := HN.out; omega)))
  clear hbr1
  refine wpList_new2 rfl rfl 102 rfl rfl (NB 0) zNu rfl rfl _ _ _ _ rfl rfl (NB 0) (NB 0) 32 (NB_rw 0) (NB_rw 0) (NB_rw 0).size (by kernel_rfl) rfl rfl rfl rfl rfl rfl (fun B2a B2b wr2 hB2a hB2b hbr2 hCB2a hCB2b => ?_)
  have HB2a := Lib.hid hCB2a
  have HB2b := Lib.hid hCB2b
  have hlB2aX0 : N < B2a := by rw [← hB2a]; exact HX0.out.lt
  have hlB2bX0 : N < B2b := by omega
  have hlB2aX1 : (N + 1) < B2a := by rw [← hB2a]; exact HX1.out.lt
  have hlB2bX1 : (N + 1) < B2b := by omega
  have hNB2a : N ≤ B2a := by rw [← hB2a]; have := HB.out.size; have := HN.out; omega
  have hNB2b : N ≤ B2b := by omega
  clear hB2a hCB2a hCB2b
  simp only [Act.put, List.setIfInBounds_toArray, List.set]
  replace HX0 := Lib.hid (HX0.out.ext hbr2)
  replace HX1 := Lib.hid (HX1.out.ext hbr2)
  replace HB := Lib.hid (HB.out.trans (hbr2.mono (show N ≤ _ by have := HB.out.size; have := HN.out; omega)))
  clear hbr2
  go_upto_region 3 with fail
  refine wp_region_seq 1 ?_
  simp only [List.take_succ_cons, List.take_zero, List.drop_succ_cons, List.drop_zero]
  refine upW_late (by rfl) (.agg (PB 0)) (fun w => run_built _ _ _ _ rfl _ (by kernel_rfl) w) ?_
  simp only [Act.put, List.setIfInBounds_toArray, List.set]
  refine upW_nil (fun wr3 hbr3 => ?_)
  replace HX0 := Lib.hid (HX0.out.ext hbr3)
  replace HX1 := Lib.hid (HX1.out.ext hbr3)
  replace HB2a := Lib.hid (HB2a.out.ext hbr3)
  replace HB2b := Lib.hid (HB2b.out.ext hbr3)
  replace HB := Lib.hid (HB.out.trans (hbr3.mono (show N ≤ _ by have := HB.out.size; have := HN.out; omega)))
  clear hbr3
  refine wpList_store_ct rfl 68 _ _ rfl (N + 1) (PB 0) rfl rfl 68 (PB 0) 32 HX1.out (by kernel_rfl) (PB_rw 0) (PB_rw 0) rfl (fun wr4 hSwr4 hOwr4 hWwr4 => ?_)
  replace HX1 := Lib.hid hSwr4
  replace HB := Lib.hid (hWwr4 _ _ HB.out (by omega))
  replace HX0 := Lib.hid (HX0.out.other (hOwr4 _ (by omega)))
  replace HB2a := Lib.hid (HB2a.out.other (hOwr4 _ (by omega)))
  replace HB2b := Lib.hid (HB2b.out.other (hOwr4 _ (by omega)))
  clear hSwr4 hOwr4 hWwr4
  go_wp2
  refine bodyPost_ret (results_ct_slot (p := 2) (q := 3) (by rfl) _ _ (N + 1) 68 (PB 0) 32 _ (.bool false) (by rfl) HX1.out (PB_rw 0) Tryd.underlying68 rfl (by kernel_rfl) rfl) rfl ⟨by first | rfl | (rfl), by rw [HN.out]; exact HB.out⟩
set_option maxRecDepth 100000 in
set_option maxHeartbeats 1000000 in
theorem Add_ok (p q : Pt) (w : World) :
    Calls Tryd.prog 45 #[.agg (PB (pN p)), .agg (PB (pN q))] w fun e w' => e = .returned (.tuple #[.agg (PB (pN (padd p q))), .bool true]) ∧ Below w.heap.size w w' := by
  have HQ1 := Lib.hid (fun w => read_ok p w)
  have HQ2 := Lib.hid (fun w => read_ok q w)
  obtain ⟨c3, hc3⟩ : ∃ zq : Fp, zq = (((p.y + p.x) * (q.y + q.x)) - ((p.y - p.x) * (q.y - q.x))) * ((1 * 1 + 1 * 1) - (cD * ((p.x * p.y) * (q.x * q.y)) + cD * ((p.x * p.y) * (q.x * q.y)))) := ⟨_, rfl⟩
  have HE3 := Lib.hid hc3
  clear hc3
  obtain ⟨c4, hc4⟩ : ∃ zq : Fp, zq = (((p.y + p.x) * (q.y + q.x)) + ((p.y - p.x) * (q.y - q.x))) * ((1 * 1 + 1 * 1) + (cD * ((p.x * p.y) * (q.x * q.y)) + cD * ((p.x * p.y) * (q.x * q.y)))) := ⟨_, rfl⟩
  have HE4 := Lib.hid hc4
  clear hc4
  obtain ⟨c5, hc5⟩ : ∃ zq : Fp, zq = ((1 * 1 + 1 * 1) + (cD * ((p.x * p.y) * (q.x * q.y)) + cD * ((p.x * p.y) * (q.x * q.y)))) * ((1 * 1 + 1 * 1) - (cD * ((p.x * p.y) * (q.x * q.y)) + cD * ((p.x * p.y) * (q.x * q.y)))) := ⟨_, rfl⟩
  have HE5 := Lib.hid hc5
  clear hc5
  obtain ⟨c6, hc6⟩ : ∃ zq : Fp, zq = (((p.y + p.x) * (q.y + q.x)) - ((p.y - p.x) * (q.y - q.x))) * (((p.y + p.x) * (q.y + q.x)) + ((p.y - p.x) * (q.y - q.x))) := ⟨_, rfl⟩
  have HE6 := Lib.hid hc6
  clear hc6
  have HQ7 := Lib.hid (fun w => add_any p.x p.y 1 (p.x * p.y) q.x q.y 1 (q.x * q.y) w)
  rw [← HE3.out, ← HE4.out, ← HE5.out, ← HE6.out] at HQ7
  obtain ⟨c8, hc8⟩ : ∃ zq : Fp, zq = c3 * finv c5 := ⟨_, rfl⟩
  have HE8 := Lib.hid hc8
  clear hc8
  obtain ⟨c9, hc9⟩ : ∃ zq : Fp, zq = c4 * finv c5 := ⟨_, rfl⟩
  have HE9 := Lib.hid hc9
  clear hc9
  have HQ10 := Lib.hid (fun w => point_any c3 c4 c5 c6 w)
  rw [← HE8.out, ← HE9.out] at HQ10
  have hz0 := zPt
  have hz1 := zFr
  go_enter Tryd.func45, Tryd.ntmps45
  go_upto_region 1 with fail
  generalize hW1 : World.alloc _ _ = W1
  obtain ⟨N, hN⟩ : ∃ n, w.heap.size = n := ⟨_, rfl⟩
  have HX0 := Lib.hid (show CT W1 N 68 (PB (pN p)) by subst hW1; rw [← hN]; exact (allocs3_at w _ _ _).1)
  have HX1 := Lib.hid (show CT W1 (N + 1) 68 (PB (pN q)) by subst hW1; rw [← hN]; exact (allocs3_at w _ _ _).2.1)
  have HX2 := Lib.hid (show CT W1 (N + 1 + 1) 68 (PB 0) by subst hW1; rw [← hN]; exact (allocs3_at w _ _ _).2.2)
  have HB := Lib.hid (show Below N w W1 by subst hW1; rw [← hN]; exact allocs3_below w _ _ _)
  have HN := Lib.hid hN
  rw [hN]
  clear hW1 hN
  refine wp_region_seq 5 ?_
  simp only [List.take_succ_cons, List.take_zero, List.drop_succ_cons, List.drop_zero]
  refine upW_val (by rfl) (by rfl) (by rfl) (fun K hK => quiet_load_ct _ _ rfl N rfl 68 (PB (pN p)) 32 (PB_rw (pN p)) _ HX0.out Tryd.underlying68 rfl (by kernel_rfl) (hK _ ?_))
  simp only [Act.put, List.setIfInBounds_toArray, List.set]
  refine upW_call (by rfl) (by rfl) (.tuple #[.agg (FR p.x p.y 1 (p.x * p.y)), .bool true]) _ rfl (by simp) (fun p => ?_) ?_
  · go_big_quiet_op
    exact ⟨_, fun q => Calls.ext_of (HQ1.out q.x), rfl⟩
  simp only [Act.put, List.setIfInBounds_toArray, List.set]
  refine upW_val (by rfl) (by rfl) (by rfl) ?_
  intro K hK
  go_big_quiet_op
  refine hK _ ?_
  refine upW_late (by rfl) (.agg (FR p.x p.y 1 (p.x * p.y))) (fun _ => rfl) ?_
  simp only [Act.put, List.setIfInBounds_toArray, List.set]
  refine upW_late (by rfl) (.bool true) (fun _ => rfl) ?_
  simp only [Act.put, List.setIfInBounds_toArray, List.set]
  refine upW_nil (fun wr1 hbr1 => ?_)
  replace HX0 := Lib.hid (HX0.out.ext hbr1)
  replace HX1 := Lib.hid (HX1.out.ext hbr1)
  replace HX2 := Lib.hid (HX2.out.ext hbr1)
  replace HB := Lib.hid (HB.out.trans (hbr1.mono (show N ≤ _ by have := HB.out.size; have := HN.out; omega)))
  clear hbr1
  refine wpList_new1 rfl 108 rfl (FR 0 0 0 0) zFr rfl _ _ rfl rfl (FR p.x p.y 1 (p.x * p.y)) 128 (FR_rw p.x p.y 1 (p.x * p.y)) (FR_rw 0 0 0 0).size (by kernel_rfl) rfl rfl (fun B2 wr2 hB2 hbr2 hCB2 => ?_)
  have HB2 := Lib.hid hCB2
  have hlB2X0 : N < B2 := by rw [← hB2]; exact HX0.out.lt
  have hlB2X1 : (N + 1) < B2 := by rw [← hB2]; exact HX1.out.lt
  have hlB2X2 : (N + 1 + 1) < B2 := by rw [← hB2]; exact HX2.out.lt
  have hNB2 : N ≤ B2 := by rw [← hB2]; have := HB.out.size; have := HN.out; omega
  clear hB2 hCB2
  simp only [Act.put, List.setIfInBounds_toArray, List.set]
  replace HX0 := Lib.hid (HX0.out.ext hbr2)
  replace HX1 := Lib.hid (HX1.out.ext hbr2)
  replace HX2 := Lib.hid (HX2.out.ext hbr2)
  replace HB := Lib.hid (HB.out.trans (hbr2.mono (show N ≤ _ by have := HB.out.size; have := HN.out; omega)))
  clear hbr2
  go_upto_region 2 with fail
  refine wp_region_seq 5 ?_
  simp only [List.take_succ_cons, List.take_zero, List.drop_succ_cons, List.drop_zero]
  refine upW_val (by rfl) (by rfl) (by rfl) (fun K hK => quiet_load_ct _ _ rfl (N + 1) rfl 68 (PB (pN q)) 32 (PB_rw (pN q)) _ HX1.out Tryd.underlying68 rfl (by kernel_rfl) (hK _ ?_))
  simp only [Act.put, List.setIfInBounds_toArray, List.set]
  refine upW_call (by rfl) (by rfl) (.tuple #[.agg (FR q.x q.y 1 (q.x * q.y)), .bool true]) _ rfl (by simp) (fun p => ?_) ?_
  · go_big_quiet_op
    exact ⟨_, fun q => Calls.ext_of (HQ2.out q.x), rfl⟩
  simp only [Act.put, List.setIfInBounds_toArray, List.set]
  refine upW_val (by rfl) (by rfl) (by rfl) ?_
  intro K hK
  go_big_quiet_op
  refine hK _ ?_
  refine upW_late (by rfl) (.agg (FR q.x q.y 1 (q.x * q.y))) (fun _ => rfl) ?_
  simp only [Act.put, List.setIfInBounds_toArray, List.set]
  refine upW_late (by rfl) (.bool true) (fun _ => rfl) ?_
  simp only [Act.put, List.setIfInBounds_toArray, List.set]
  refine upW_nil (fun wr3 hbr3 => ?_)
  replace HX0 := Lib.hid (HX0.out.ext hbr3)
  replace HX1 := Lib.hid (HX1.out.ext hbr3)
  replace HX2 := Lib.hid (HX2.out.ext hbr3)
  replace HB2 := Lib.hid (HB2.out.ext hbr3)
  replace HB := Lib.hid (HB.out.trans (hbr3.mono (show N ≤ _ by have := HB.out.size; have := HN.out; omega)))
  clear hbr3
  refine wpList_new1 rfl 108 rfl (FR 0 0 0 0) zFr rfl _ _ rfl rfl (FR q.x q.y 1 (q.x * q.y)) 128 (FR_rw q.x q.y 1 (q.x * q.y)) (FR_rw 0 0 0 0).size (by kernel_rfl) rfl rfl (fun B4 wr4 hB4 hbr4 hCB4 => ?_)
  have HB4 := Lib.hid hCB4
  have hlB4X0 : N < B4 := by rw [← hB4]; exact HX0.out.lt
  have hlB4X1 : (N + 1) < B4 := by rw [← hB4]; exact HX1.out.lt
  have hlB4X2 : (N + 1 + 1) < B4 := by rw [← hB4]; exact HX2.out.lt
  have hlB4B2 : B2 < B4 := by rw [← hB4]; exact HB2.out.lt
  have hNB4 : N ≤ B4 := by rw [← hB4]; have := HB.out.size; have := HN.out; omega
  clear hB4 hCB4
  simp only [Act.put, List.setIfInBounds_toArray, List.set]
  replace HX0 := Lib.hid (HX0.out.ext hbr4)
  replace HX1 := Lib.hid (HX1.out.ext hbr4)
  replace HX2 := Lib.hid (HX2.out.ext hbr4)
  replace HB2 := Lib.hid (HB2.out.ext hbr4)
  replace HB := Lib.hid (HB.out.trans (hbr4.mono (show N ≤ _ by have := HB.out.size; have := HN.out; omega)))
  clear hbr4
  go_upto_region 5 with fail
  refine wp_region_seq 4 ?_
  simp only [List.take_succ_cons, List.take_zero, List.drop_succ_cons, List.drop_zero]
  refine upW_val (by rfl) (by rfl) (by rfl) (fun K hK => quiet_load_ct _ _ rfl B2 rfl 108 (FR p.x p.y 1 (p.x * p.y)) 128 (FR_rw p.x p.y 1 (p.x * p.y)) _ HB2.out Tryd.underlying108 rfl (by kernel_rfl) (hK _ ?_))
  simp only [Act.put, List.setIfInBounds_toArray, List.set]
  refine upW_val (by rfl) (by rfl) (by rfl) (fun K hK => quiet_load_ct _ _ rfl B4 rfl 108 (FR q.x q.y 1 (q.x * q.y)) 128 (FR_rw q.x q.y 1 (q.x * q.y)) _ HB4.out Tryd.underlying108 rfl (by kernel_rfl) (hK _ ?_))
  simp only [Act.put, List.setIfInBounds_toArray, List.set]
  refine upW_call (by rfl) (by rfl) (.agg (FR c3 c4 c5 c6)) _ rfl (by simp) (fun p => ?_) ?_
  · go_big_quiet_op
    exact ⟨_, fun q => Calls.ext_of (HQ7.out q.x), rfl⟩
  simp only [Act.put, List.setIfInBounds_toArray, List.set]
  refine upW_call (by rfl) (by rfl) (.agg (PB (encXY c8 c9))) _ rfl (by simp) (fun p => ?_) ?_
  · go_big_quiet_op
    exact ⟨_, fun q => Calls.ext_of (HQ10.out q.x), rfl⟩
  simp only [Act.put, List.setIfInBounds_toArray, List.set]
  refine upW_nil (fun wr5 hbr5 => ?_)
  replace HX0 := Lib.hid (HX0.out.ext hbr5)
  replace HX1 := Lib.hid (HX1.out.ext hbr5)
  replace HX2 := Lib.hid (HX2.out.ext hbr5)
  replace HB2 := Lib.hid (HB2.out.ext hbr5)
  replace HB4 := Lib.hid (HB4.out.ext hbr5)
  replace HB := Lib.hid (HB.out.trans (hbr5.mono (show N ≤ _ by have := HB.out.size; have := HN.out; omega)))
  clear hbr5
  refine wpList_store_ct rfl 68 _ _ rfl (N + 1 + 1) (PB (encXY c8 c9)) rfl rfl 68 (PB 0) 32 HX2.out (by kernel_rfl) (PB_rw 0) (PB_rw (encXY c8 c9)) rfl (fun wr6 hSwr6 hOwr6 hWwr6 => ?_)
  replace HX2 := Lib.hid hSwr6
  replace HB := Lib.hid (hWwr6 _ _ HB.out (by omega))
  replace HX0 := Lib.hid (HX0.out.other (hOwr6 _ (by omega)))
  replace HX1 := Lib.hid (HX1.out.other (hOwr6 _ (by omega)))
  replace HB2 := Lib.hid (HB2.out.other (hOwr6 _ (by omega)))
  replace HB4 := Lib.hid (HB4.out.other (hOwr6 _ (by omega)))
  clear hSwr6 hOwr6 hWwr6
  go_wp2
  refine bodyPost_ret (results_ct_slot (p := 4) (q := 5) (by rfl) _ _ (N + 1 + 1) 68 (PB (encXY c8 c9)) 32 _ (.bool true) (by rfl) HX2.out (PB_rw (encXY c8 c9)) Tryd.underlying68 rfl (by kernel_rfl) rfl) rfl ⟨congrArg (fun k => Ending.returned (.tuple #[.agg (PB k), .bool true])) (by simp only [HE3.out, HE4.out, HE5.out, HE6.out, HE8.out, HE9.out]; exact rep_point (addP_rep (rep_flat p) (rep_flat q))), by rw [HN.out]; exact HB.out⟩
set_option maxRecDepth 100000 in
set_option maxHeartbeats 1000000 in
theorem Times_ok (k : Nat) (hk : k < 115792089237316195423570985008687907853269984665640564039457584007913129639936) (p : Pt) (w : World) :
    Calls Tryd.prog 44 #[.agg (PB k), .agg (PB (pN p))] w fun e w' => e = .returned (.tuple #[.agg (PB (pN (ptimes k p))), .bool true]) ∧ Below w.heap.size w w' := by
  obtain ⟨tt, htt⟩ : ∃ q, runQ dblQ (fun e => addQ e (p.x, p.y, 1, p.x * p.y)) k 256 (0, 1, 1, 0) = q := ⟨_, rfl⟩
  have HRP := Lib.hid (show RepQ tt (ptimes k p) from htt ▸ timesC_rep (flatQ p) hk)
  have HTT := Lib.hid htt
  have HK := Lib.hid hk
  clear htt hk
  have HQ1 := Lib.hid (fun w => read_ok p w)
  have HQ2 := Lib.hid (fun w => timesQ_any p.x p.y 1 (p.x * p.y) k tt HK.out HTT.out w)
  obtain ⟨c3, hc3⟩ : ∃ zq : Fp, zq = tt.1 * finv tt.2.2.1 := ⟨_, rfl⟩
  have HE3 := Lib.hid hc3
  clear hc3
  obtain ⟨c4, hc4⟩ : ∃ zq : Fp, zq = tt.2.1 * finv tt.2.2.1 := ⟨_, rfl⟩
  have HE4 := Lib.hid hc4
  clear hc4
  have HQ5 := Lib.hid (fun w => point_any tt.1 tt.2.1 tt.2.2.1 tt.2.2.2 w)
  rw [← HE3.out, ← HE4.out] at HQ5
  have hz0 := zPt
  have hz1 := zFr
  have hz2 := zSc
  go_enter Tryd.func44, Tryd.ntmps44
  go_upto_region 1 with fail
  generalize hW1 : World.alloc _ _ = W1
  obtain ⟨N, hN⟩ : ∃ n, w.heap.size = n := ⟨_, rfl⟩
  have HX0 := Lib.hid (show CT W1 N 67 (PB k) by subst hW1; rw [← hN]; exact (allocs3_at w _ _ _).1)
  have HX1 := Lib.hid (show CT W1 (N + 1) 68 (PB (pN p)) by subst hW1; rw [← hN]; exact (allocs3_at w _ _ _).2.1)
  have HX2 := Lib.hid (show CT W1 (N + 1 + 1) 68 (PB 0) by subst hW1; rw [← hN]; exact (allocs3_at w _ _ _).2.2)
  have HB := Lib.hid (show Below N w W1 by subst hW1; rw [← hN]; exact allocs3_below w _ _ _)
  have HN := Lib.hid hN
  rw [hN]
  clear hW1 hN
  refine wp_region_seq 5 ?_
  simp only [List.take_succ_cons, List.take_zero, List.drop_succ_cons, List.drop_zero]
  refine upW_val (by rfl) (by rfl) (by rfl) (fun K hK => quiet_load_ct _ _ rfl (N + 1) rfl 68 (PB (pN p)) 32 (PB_rw (pN p)) _ HX1.out Tryd.underlying68 rfl (by kernel_rfl) (hK _ ?_))
  simp only [Act.put, List.setIfInBounds_toArray, List.set]
  refine upW_call (by rfl) (by rfl) (.tuple #[.agg (FR p.x p.y 1 (p.x * p.y)), .bool true]) _ rfl (by simp) (fun p => ?_) ?_
  · go_big_quiet_op
    exact ⟨_, fun q => Calls.ext_of (HQ1.out q.x), rfl⟩
  simp only [Act.put, List.setIfInBounds_toArray, List.set]
  refine upW_val (by rfl) (by rfl) (by rfl) ?_
  intro K hK
  go_big_quiet_op
  refine hK _ ?_
  refine upW_late (by rfl) (.agg (FR p.x p.y 1 (p.x * p.y))) (fun _ => rfl) ?_
  simp only [Act.put, List.setIfInBounds_toArray, List.set]
  refine upW_late (by rfl) (.bool true) (fun _ => rfl) ?_
  simp only [Act.put, List.setIfInBounds_toArray, List.set]
  refine upW_nil (fun wr1 hbr1 => ?_)
  replace HX0 := Lib.hid (HX0.out.ext hbr1)
  replace HX1 := Lib.hid (HX1.out.ext hbr1)
  replace HX2 := Lib.hid (HX2.out.ext hbr1)
  replace HB := Lib.hid (HB.out.trans (hbr1.mono (show N ≤ _ by have := HB.out.size; have := HN.out; omega)))
  clear hbr1
  refine wpList_new1 rfl 108 rfl (FR 0 0 0 0) zFr rfl _ _ rfl rfl (FR p.x p.y 1 (p.x * p.y)) 128 (FR_rw p.x p.y 1 (p.x * p.y)) (FR_rw 0 0 0 0).size (by kernel_rfl) rfl rfl (fun B2 wr2 hB2 hbr2 hCB2 => ?_)
  have HB2 := Lib.hid hCB2
  have hlB2X0 : N < B2 := by rw [← hB2]; exact HX0.out.lt
  have hlB2X1 : (N + 1) < B2 := by rw [← hB2]; exact HX1.out.lt
  have hlB2X2 : (N + 1 + 1) < B2 := by rw [← hB2]; exact HX2.out.lt
  have hNB2 : N ≤ B2 := by rw [← hB2]; have := HB.out.size; have := HN.out; omega
  clear hB2 hCB2
  simp only [Act.put, List.setIfInBounds_toArray, List.set]
  replace HX0 := Lib.hid (HX0.out.ext hbr2)
  replace HX1 := Lib.hid (HX1.out.ext hbr2)
  replace HX2 := Lib.hid (HX2.out.ext hbr2)
  replace HB := Lib.hid (HB.out.trans (hbr2.mono (show N ≤ _ by have := HB.out.size; have := HN.out; omega)))
  clear hbr2
  go_upto_region 4 with fail
  refine wp_region_seq 4 ?_
  simp only [List.take_succ_cons, List.take_zero, List.drop_succ_cons, List.drop_zero]
  refine upW_val (by rfl) (by rfl) (by rfl) (fun K hK => quiet_load_ct _ _ rfl B2 rfl 108 (FR p.x p.y 1 (p.x * p.y)) 128 (FR_rw p.x p.y 1 (p.x * p.y)) _ HB2.out Tryd.underlying108 rfl (by kernel_rfl) (hK _ ?_))
  simp only [Act.put, List.setIfInBounds_toArray, List.set]
  refine upW_val (by rfl) (by rfl) (by rfl) (fun K hK => quiet_load_ct _ _ rfl N rfl 67 (PB k) 32 (PB_rw k) _ HX0.out Tryd.underlying67 rfl (by kernel_rfl) (hK _ ?_))
  simp only [Act.put, List.setIfInBounds_toArray, List.set]
  refine upW_call (by rfl) (by rfl) (.agg (FR tt.1 tt.2.1 tt.2.2.1 tt.2.2.2)) _ rfl (by simp) (fun p => ?_) ?_
  · go_big_quiet_op
    exact ⟨_, fun q => Calls.ext_of (HQ2.out q.x), rfl⟩
  simp only [Act.put, List.setIfInBounds_toArray, List.set]
  refine upW_call (by rfl) (by rfl) (.agg (PB (encXY c3 c4))) _ rfl (by simp) (fun p => ?_) ?_
  · go_big_quiet_op
    exact ⟨_, fun q => Calls.ext_of (HQ5.out q.x), rfl⟩
  simp only [Act.put, List.setIfInBounds_toArray, List.set]
  refine upW_nil (fun wr3 hbr3 => ?_)
  replace HX0 := Lib.hid (HX0.out.ext hbr3)
  replace HX1 := Lib.hid (HX1.out.ext hbr3)
  replace HX2 := Lib.hid (HX2.out.ext hbr3)
  replace HB2 := Lib.hid (HB2.out.ext hbr3)
  replace HB := Lib.hid (HB.out.trans (hbr3.mono (show N ≤ _ by have := HB.out.size; have := HN.out; omega)))
  clear hbr3
  refine wpList_store_ct rfl 68 _ _ rfl (N + 1 + 1) (PB (encXY c3 c4)) rfl rfl 68 (PB 0) 32 HX2.out (by kernel_rfl) (PB_rw 0) (PB_rw (encXY c3 c4)) rfl (fun wr4 hSwr4 hOwr4 hWwr4 => ?_)
  replace HX2 := Lib.hid hSwr4
  replace HB := Lib.hid (hWwr4 _ _ HB.out (by omega))
  replace HX0 := Lib.hid (HX0.out.other (hOwr4 _ (by omega)))
  replace HX1 := Lib.hid (HX1.out.other (hOwr4 _ (by omega)))
  replace HB2 := Lib.hid (HB2.out.other (hOwr4 _ (by omega)))
  clear hSwr4 hOwr4 hWwr4
  go_wp2
  refine bodyPost_ret (results_ct_slot (p := 4) (q := 5) (by rfl) _ _ (N + 1 + 1) 68 (PB (encXY c3 c4)) 32 _ (.bool true) (by rfl) HX2.out (PB_rw (encXY c3 c4)) Tryd.underlying68 rfl (by kernel_rfl) rfl) rfl ⟨congrArg (fun k => Ending.returned (.tuple #[.agg (PB k), .bool true])) (by simp only [HE3.out, HE4.out]; exact repQ_point HRP.out), by rw [HN.out]; exact HB.out⟩
end Go.Proofs.YtlpchgoaoglhcaaDoor
namespace Go.Proofs.YtlpchgoaoglhcaaDoor
open Go.RowKit
set_option linter.unusedSimpArgs false
set_option linter.unusedVariables false
theorem Base_pt (w : World) : Calls Tryd.prog 50 #[] w fun e w' => e = .returned (.agg (PB (pN cB))) ∧ Below w.heap.size w w' := Base_any w
end Go.Proofs.YtlpchgoaoglhcaaDoor
