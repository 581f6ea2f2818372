/-
  So often: the loops of the code and of the document.
  Conditions: none.
-/
import Derived.Test.YtfmclkmmkceldaaCvT
import Derived.Test.YtfmclkmmkceldaaScH
namespace Go.Proofs.Ytfmclkmmkceldaa
open Go.RowKit

set_option linter.unusedSimpArgs false
set_option linter.unusedVariables false
/-- Four numbers. -/
abbrev Fq := Fp × Fp × Fp × Fp
def addQ : Fq → Fq → Fq
  | (x, y, z, t), (x', y', z', t') => ((((y + x) * (y' + x')) - ((y - x) * (y' - x'))) * ((z * z' + z * z') - (cD * (t * t') + cD * (t * t'))), (((y + x) * (y' + x')) + ((y - x) * (y' - x'))) * ((z * z' + z * z') + (cD * (t * t') + cD * (t * t'))), ((z * z' + z * z') + (cD * (t * t') + cD * (t * t'))) * ((z * z' + z * z') - (cD * (t * t') + cD * (t * t'))), (((y + x) * (y' + x')) - ((y - x) * (y' - x'))) * (((y + x) * (y' + x')) + ((y - x) * (y' - x'))))
def dblQ : Fq → Fq
  | (x, y, z, t) => (((x + y) * (x + y) - (y * y + x * x)) * ((z * z + z * z) - (y * y - x * x)), (y * y + x * x) * (y * y - x * x), (y * y - x * x) * ((z * z + z * z) - (y * y - x * x)), ((x + y) * (x + y) - (y * y + x * x)) * (y * y + x * x))
def sumQ : Fq → Fq → Fq
  | (x, y, z, t), (x', y', z', t') => ((((y + x) * (y' + x')) - ((y - x) * (y' - x'))) * ((z * z' + z * z') - (((t * t') + (t * t')) * cD)), ((z * z' + z * z') + (((t * t') + (t * t')) * cD)) * (((y + x) * (y' + x')) + ((y - x) * (y' - x'))), ((z * z' + z * z') - (((t * t') + (t * t')) * cD)) * ((z * z' + z * z') + (((t * t') + (t * t')) * cD)), (((y + x) * (y' + x')) - ((y - x) * (y' - x'))) * (((y + x) * (y' + x')) + ((y - x) * (y' - x'))))
def RepQ (q : Fq) (p : Pt) : Prop := Rep q.1 q.2.1 q.2.2.1 q.2.2.2 p
theorem addQ_rep {a b : Fq} {p q : Pt} (h : RepQ a p) (k : RepQ b q) : RepQ (addQ a b) (padd p q) := by
  obtain ⟨x, y, z, t⟩ := a
  obtain ⟨x', y', z', t'⟩ := b
  exact Rep.sum h k
theorem dblQ_rep {a : Fq} {p : Pt} (h : RepQ a p) : RepQ (dblQ a) (padd p p) := by
  obtain ⟨x, y, z, t⟩ := a
  exact Rep.dbl h
theorem sumQ_rep {a b : Fq} {p q : Pt} (h : RepQ a p) (k : RepQ b q) : RepQ (sumQ a b) (padd p q) := by
  obtain ⟨x, y, z, t⟩ := a
  obtain ⟨x', y', z', t'⟩ := b
  have r := Rep.sum h k
  have e1 : (t * t' + t * t') * cD = cD * (t * t') + cD * (t * t') := by grind
  unfold RepQ sumQ
  simp only [e1]
  generalize cD * (t * t') + cD * (t * t') = c at r ⊢
  generalize z * z' + z * z' = d at r ⊢
  generalize (y + x) * (y' + x') = e at r ⊢
  generalize (y - x) * (y' - x') = f at r ⊢
  have e2 : (d + c) * (e + f) = (e + f) * (d + c) := by grind
  have e3 : (d - c) * (d + c) = (d + c) * (d - c) := by grind
  simp only [e2, e3]
  exact r
/-- Bit by bit from the highest on. -/
def runQ (f : Fq → Fq) (g : Fq → Fq) (k : Nat) : Nat → Fq → Fq
  | 0, acc => acc
  | i + 1, acc => runQ f g k i (if k / 2 ^ i % 2 = 1 then g (f acc) else f acc)
theorem runQ_rep {f g : Fq → Fq} {p : Pt} (hf : ∀ a q, RepQ a q → RepQ (f a) (padd q q)) (hg : ∀ a q, RepQ a q → RepQ (g a) (padd q p)) (k : Nat) : ∀ j acc, RepQ acc (ptimes (k / 2 ^ j) p) → RepQ (runQ f g k j acc) (ptimes k p)
  | 0, acc, h => by rw [Nat.pow_zero, Nat.div_one] at h; exact h
  | j + 1, acc, h => by
    refine runQ_rep hf hg k j _ ?_
    have e : k / 2 ^ j = k / 2 ^ (j + 1) + k / 2 ^ (j + 1) + k / 2 ^ j % 2 := by rw [Nat.pow_succ, ← Nat.div_div_eq_div_mul]; omega
    have h2 := hf _ _ h
    rw [← ptimes_add] at h2
    split
    · rename_i hb
      rw [hb] at e
      have h3 := hg _ _ h2
      have e2 : padd (ptimes (k / 2 ^ (j + 1) + k / 2 ^ (j + 1)) p) p = ptimes (k / 2 ^ j) p := (congrArg (fun n => ptimes n p) e).symm
      rw [e2] at h3
      exact h3
    · rw [e, show k / 2 ^ j % 2 = 0 by omega]
      exact h2
def timesC (q : Fq) (k : Nat) : Fq := runQ dblQ (fun a => addQ a q) k 256 (0, 1, 1, 0)
def timesD (q : Fq) (k : Nat) : Fq := runQ (fun a => sumQ a a) (fun a => sumQ a q) k 256 (0, 1, 1, 0)
theorem div256 {k : Nat} (h : k < 115792089237316195423570985008687907853269984665640564039457584007913129639936) : k / 2 ^ 256 = 0 := Nat.div_eq_of_lt h
theorem timesC_rep {q : Fq} {p : Pt} (h : RepQ q p) {k : Nat} (hk : k < 115792089237316195423570985008687907853269984665640564039457584007913129639936) : RepQ (timesC q k) (ptimes k p) :=
  runQ_rep (fun _ _ h => dblQ_rep h) (fun _ _ h' => addQ_rep h' h) k 256 _ (by rw [div256 hk]; exact rep_zero)
theorem timesD_rep {q : Fq} {p : Pt} (h : RepQ q p) {k : Nat} (hk : k < 115792089237316195423570985008687907853269984665640564039457584007913129639936) : RepQ (timesD q k) (ptimes k p) :=
  runQ_rep (fun _ _ h => sumQ_rep h h) (fun _ _ h' => sumQ_rep h' h) k 256 _ (by rw [div256 hk]; exact rep_zero)
theorem bit_at (k j : Nat) (hj : j < 256) : bitB k (j : Int) = decide (k / 2 ^ j % 2 = 1) := by
  unfold bitB
  rw [Bool.eq_iff_iff, decide_eq_true_eq, decide_eq_true_eq, Int.toNat_natCast]
  exact ⟨fun h => h.2.2, fun h => ⟨by omega, by omega, h⟩⟩
theorem Bit_k (k j : Nat) (hk : k < 115792089237316195423570985008687907853269984665640564039457584007913129639936) (hj : j < 256) (w : World) : Calls Try.prog 58 #[.agg (PB k), .int .i64 (j : Int)] w fun e w' => e = .returned (.bool (decide (k / 2 ^ j % 2 = 1))) ∧ Below w.heap.size w w' := by
  have h := Bit_sc (b32 k) (j : Int) w (b32_len k) (by omega) (by omega)
  rw [le_b32 k hk, bit_at k j hj] at h
  exact h
theorem Bit_kd (k j : Nat) (hk : k < 115792089237316195423570985008687907853269984665640564039457584007913129639936) (hj : j < 256) (w : World) : Calls Try.prog 59 #[.agg (PB k), .int .i64 (j : Int)] w fun e w' => e = .returned (.bool (decide (k / 2 ^ j % 2 = 1))) ∧ Below w.heap.size w w' := by
  have h := Bit_doc (b32 k) (j : Int) w (b32_len k) (by omega) (by omega)
  rw [le_b32 k hk, bit_at k j hj] at h
  exact h
theorem zSc (w : World) : (zeroValue 34).run Try.prog w = .ok (.agg (PB 0)) w :=
  (zero_of_info (P := Try.prog) (t := 34) (v := .agg (PB 0)) (n := 32) (by kernel_rfl)).1 w
set_option maxRecDepth 100000 in
set_option maxHeartbeats 1000000 in
theorem timesQ_any (a b c d : Fp) (k : Nat) (tt : Fq) (hk : k < 115792089237316195423570985008687907853269984665640564039457584007913129639936) (htt : runQ dblQ (fun e => addQ e (a, b, c, d)) k 256 (0, 1, 1, 0) = tt) (w : World) :
    Calls Try.prog 69 #[.agg (FR a b c d), .agg (PB k)] w fun e w' => e = .returned (.agg (FR tt.1 tt.2.1 tt.2.2.1 tt.2.2.2)) ∧ Below w.heap.size w w' := by
  have HTT := Lib.hid (show runQ dblQ (fun e => addQ e (a, b, c, d)) k 256 (0, 1, 1, 0) = tt from htt)
  have HK := Lib.hid hk
  clear htt hk
  have hz0 := zFr
  have hz1 := zSc
  go_enter Try.func69, Try.ntmps69
  go_upto_region 1 with fail
  generalize hW1 : World.alloc _ _ = W1
  obtain ⟨N, hN⟩ : ∃ n, w.heap.size = n := ⟨_, rfl⟩
  have HX0 := Lib.hid (show CT W1 N 76 (FR a b c d) by subst hW1; rw [← hN]; exact (allocs3_at w _ _ _).1)
  have HX1 := Lib.hid (show CT W1 (N + 1) 34 (PB k) by subst hW1; rw [← hN]; exact (allocs3_at w _ _ _).2.1)
  have HX2 := Lib.hid (show CT W1 (N + 1 + 1) 76 (FR 0 0 0 0) by subst hW1; rw [← hN]; exact (allocs3_at w _ _ _).2.2)
  have HB := Lib.hid (show Below N w W1 by subst hW1; rw [← hN]; exact allocs3_below w _ _ _)
  have HN := Lib.hid hN
  rw [hN]
  clear hW1 hN
  go_upto_region 2 with fail
  refine wp_region_seq 1 ?_
  simp only [List.take_succ_cons, List.take_zero, List.drop_succ_cons, List.drop_zero]
  refine upW_call (by rfl) (by rfl) (.agg (FR 0 1 1 0)) _ rfl (by simp) (fun p => ?_) ?_
  · go_big_quiet_op
    exact ⟨_, fun q => Calls.ext_of (zero_any q.x), rfl⟩
  simp only [Act.put, List.setIfInBounds_toArray, List.set]
  refine upW_nil (fun wr1 hbr1 => ?_)
  replace HX0 := Lib.hid (HX0.out.ext hbr1)
  replace HX1 := Lib.hid (HX1.out.ext hbr1)
  replace HX2 := Lib.hid (HX2.out.ext hbr1)
  replace HB := Lib.hid (HB.out.trans (hbr1.mono (show N ≤ _ by have := HB.out.size; have := HN.out; omega)))
  clear hbr1
  refine wpList_new1 rfl 76 rfl (FR 0 0 0 0) zFr rfl _ _ rfl rfl (FR 0 1 1 0) 128 (FR_rw 0 1 1 0) (FR_rw 0 0 0 0).size (by kernel_rfl) rfl rfl (fun B2 wr2 hB2 hbr2 hCB2 => ?_)
  have HB2 := Lib.hid hCB2
  have hlB2X0 : N < B2 := by rw [← hB2]; exact HX0.out.lt
  have hlB2X1 : (N + 1) < B2 := by rw [← hB2]; exact HX1.out.lt
  have hlB2X2 : (N + 1 + 1) < B2 := by rw [← hB2]; exact HX2.out.lt
  have hNB2 : N ≤ B2 := by rw [← hB2]; have := HB.out.size; have := HN.out; omega
  clear hB2 hCB2
  simp only [Act.put, List.setIfInBounds_toArray, List.set]
  replace HX0 := Lib.hid (HX0.out.ext hbr2)
  replace HX1 := Lib.hid (HX1.out.ext hbr2)
  replace HX2 := Lib.hid (HX2.out.ext hbr2)
  replace HB := Lib.hid (HB.out.trans (hbr2.mono (show N ≤ _ by have := HB.out.size; have := HN.out; omega)))
  clear hbr2
  go_wp2_with fail
  go_loopw [8] (fun iv wr => ∃ (j : Nat) (acc : Fq), iv = .int .i64 ((j : Int) - 1) ∧ j ≤ 256 ∧ Hid (runQ dblQ (fun e => addQ e (a, b, c, d)) k j acc = tt) ∧ CT wr N 76 (FR a b c d) ∧ CT wr (N + 1) 34 (PB k) ∧ CT wr (N + 1 + 1) 76 (FR 0 0 0 0) ∧ CT wr B2 76 (FR acc.1 acc.2.1 acc.2.2.1 acc.2.2.2) ∧ Below N w wr) (fun i _ => (intOf i + 1).toNat)
  case atStart => exact ⟨256, (0, 1, 1, 0), rfl, Nat.le_refl _, HTT, HX0.out, HX1.out, HX2.out, HB2.out, HB.out⟩
  case round =>
    obtain ⟨j, ⟨x, y, z, t⟩, rfl, hj, HP, hh0, hh1, hh2, hh3, hbel⟩ := hrel
    clear HB HX0 HX1 HX2 HB2
    have HX0 := Lib.hid hh0
    have HX1 := Lib.hid hh1
    have HX2 := Lib.hid hh2
    have HB2 := Lib.hid hh3
    have HB := Lib.hid hbel
    clear hbel hh0 hh1 hh2 hh3
    simp only at HB2
    cases j with
    | zero =>
      have HRES := Lib.hid (show (x, y, z, t) = tt from HP.out)
      clear HP
      go_upto_region 9 with fail
      refine wp_region_seq 1 ?_
      simp only [List.take_succ_cons, List.take_zero, List.drop_succ_cons, List.drop_zero]
      refine upW_val (by rfl) (by rfl) (by rfl) (fun K hK => quiet_load_ct _ _ rfl B2 rfl 76 (FR x y z t) 128 (FR_rw x y z t) _ HB2.out Try.underlying76 rfl (by kernel_rfl) (hK _ ?_))
      simp only [Act.put, List.setIfInBounds_toArray, List.set]
      refine upW_nil (fun wr3 hbr3 => ?_)
      replace HX0 := Lib.hid (HX0.out.ext hbr3)
      replace HX1 := Lib.hid (HX1.out.ext hbr3)
      replace HX2 := Lib.hid (HX2.out.ext hbr3)
      replace HB2 := Lib.hid (HB2.out.ext hbr3)
      replace HB := Lib.hid (HB.out.trans (hbr3.mono (show N ≤ _ by have := HB.out.size; have := HN.out; omega)))
      clear hbr3
      refine wpList_store_ct rfl 76 _ _ rfl (N + 1 + 1) (FR x y z t) rfl rfl 76 (FR 0 0 0 0) 128 HX2.out (by kernel_rfl) (FR_rw 0 0 0 0) (FR_rw x y z t) rfl (fun wr4 hSwr4 hOwr4 hWwr4 => ?_)
      replace HX2 := Lib.hid hSwr4
      replace HB := Lib.hid (hWwr4 _ _ HB.out (by omega))
      replace HX0 := Lib.hid (HX0.out.other (hOwr4 _ (by omega)))
      replace HX1 := Lib.hid (HX1.out.other (hOwr4 _ (by omega)))
      replace HB2 := Lib.hid (HB2.out.other (hOwr4 _ (by omega)))
      clear hSwr4 hOwr4 hWwr4
      go_wp2
      refine bodyPost_ret (results_ct (by rfl) _ _ (N + 1 + 1) 76 (FR x y z t) 128 _ (by rfl) HX2.out (FR_rw x y z t) Try.underlying76 rfl (by kernel_rfl)) rfl ⟨by rw [← HRES.out], by rw [HN.out]; exact HB.out⟩
    | succ j =>
      have i0 : ((j + 1 : Nat) : Int) - 1 = (j : Int) := by omega
      rw [i0]
      have HJ := Lib.hid (show j < 256 by omega)
      obtain ⟨c1, hc1⟩ : ∃ zq : Fp, zq = ((x + y) * (x + y) - (y * y + x * x)) * ((z * z + z * z) - (y * y - x * x)) := ⟨_, rfl⟩
      have HE1 := Lib.hid hc1
      clear hc1
      obtain ⟨c2, hc2⟩ : ∃ zq : Fp, zq = (y * y + x * x) * (y * y - x * x) := ⟨_, rfl⟩
      have HE2 := Lib.hid hc2
      clear hc2
      obtain ⟨c3, hc3⟩ : ∃ zq : Fp, zq = (y * y - x * x) * ((z * z + z * z) - (y * y - x * x)) := ⟨_, rfl⟩
      have HE3 := Lib.hid hc3
      clear hc3
      obtain ⟨c4, hc4⟩ : ∃ zq : Fp, zq = ((x + y) * (x + y) - (y * y + x * x)) * (y * y + x * x) := ⟨_, rfl⟩
      have HE4 := Lib.hid hc4
      clear hc4
      have HQ5 := Lib.hid (fun w => double_any x y z t w)
      rw [← HE1.out, ← HE2.out, ← HE3.out, ← HE4.out] at HQ5
      have HQB := Lib.hid (fun w => Bit_k k j HK.out HJ.out w)
      obtain ⟨bb, hbb⟩ : ∃ b, decide (k / 2 ^ j % 2 = 1) = b := ⟨_, rfl⟩
      rw [hbb] at HQB
      cases bb with
      | false =>
        have HBB := Lib.hid (show ¬ k / 2 ^ j % 2 = 1 from of_decide_eq_false hbb)
        clear hbb
        have HP2 := Lib.hid (show runQ dblQ (fun e => addQ e (a, b, c, d)) k j (c1, c2, c3, c4) = tt by
          have h := HP.out
          rw [runQ, if_neg HBB.out] at h
          simp only [HE1.out, HE2.out, HE3.out, HE4.out]
          exact h)
        clear HP HBB
        go_upto_region 6 with fail
        refine wp_region_seq 3 ?_
        simp only [List.take_succ_cons, List.take_zero, List.drop_succ_cons, List.drop_zero]
        refine upW_val (by rfl) (by rfl) (by rfl) ?_
        intro K hK
        go_big_quiet_op
        refine hK _ ?_
        refine upW_val (by rfl) (by rfl) (by rfl) (fun K hK => quiet_load_ct _ _ rfl B2 rfl 76 (FR x y z t) 128 (FR_rw x y z t) _ HB2.out Try.underlying76 rfl (by kernel_rfl) (hK _ ?_))
        simp only [Act.put, List.setIfInBounds_toArray, List.set]
        refine upW_call (by rfl) (by rfl) (.agg (FR c1 c2 c3 c4)) _ rfl (by simp) (fun p => ?_) ?_
        · go_big_quiet_op
          exact ⟨_, fun q => Calls.ext_of (HQ5.out q.x), rfl⟩
        simp only [Act.put, List.setIfInBounds_toArray, List.set]
        refine upW_nil (fun wr5 hbr5 => ?_)
        replace HX0 := Lib.hid (HX0.out.ext hbr5)
        replace HX1 := Lib.hid (HX1.out.ext hbr5)
        replace HX2 := Lib.hid (HX2.out.ext hbr5)
        replace HB2 := Lib.hid (HB2.out.ext hbr5)
        replace HB := Lib.hid (HB.out.trans (hbr5.mono (show N ≤ _ by have := HB.out.size; have := HN.out; omega)))
        clear hbr5
        refine wpList_store_ct rfl 76 _ _ rfl B2 (FR c1 c2 c3 c4) rfl rfl 76 (FR x y z t) 128 HB2.out (by kernel_rfl) (FR_rw x y z t) (FR_rw c1 c2 c3 c4) rfl (fun wr6 hSwr6 hOwr6 hWwr6 => ?_)
        replace HB2 := Lib.hid hSwr6
        replace HB := Lib.hid (hWwr6 _ _ HB.out (by omega))
        replace HX0 := Lib.hid (HX0.out.other (hOwr6 _ (by omega)))
        replace HX1 := Lib.hid (HX1.out.other (hOwr6 _ (by omega)))
        replace HX2 := Lib.hid (HX2.out.other (hOwr6 _ (by omega)))
        clear hSwr6 hOwr6 hWwr6
        go_upto_region 7 with fail
        refine wp_region_seq 3 ?_
        simp only [List.take_succ_cons, List.take_zero, List.drop_succ_cons, List.drop_zero]
        refine upW_val (by rfl) (by rfl) (by rfl) (fun K hK => quiet_load_ct _ _ rfl (N + 1) rfl 34 (PB k) 32 (PB_rw k) _ HX1.out Try.underlying34 rfl (by kernel_rfl) (hK _ ?_))
        simp only [Act.put, List.setIfInBounds_toArray, List.set]
        refine upW_val (by rfl) (by rfl) (by rfl) ?_
        intro K hK
        go_big_quiet_op
        refine hK _ ?_
        refine upW_call (by rfl) (by rfl) (.bool false) _ rfl (by simp) (fun p => ?_) ?_
        · go_big_quiet_op
          exact ⟨_, fun q => Calls.ext_of (HQB.out q.x), rfl⟩
        simp only [Act.put, List.setIfInBounds_toArray, List.set]
        refine upW_nil (fun wr7 hbr7 => ?_)
        replace HX0 := Lib.hid (HX0.out.ext hbr7)
        replace HX1 := Lib.hid (HX1.out.ext hbr7)
        replace HX2 := Lib.hid (HX2.out.ext hbr7)
        replace HB2 := Lib.hid (HB2.out.ext hbr7)
        replace HB := Lib.hid (HB.out.trans (hbr7.mono (show N ≤ _ by have := HB.out.size; have := HN.out; omega)))
        clear hbr7
        go_wp2_with fail
        go_roundw
        case rel => exact ⟨j, (c1, c2, c3, c4), rfl, by omega, HP2, HX0.out, HX1.out, HX2.out, HB2.out, HB.out⟩
        case measure => simp [intOf]
      | true =>
        have HBB := Lib.hid (show k / 2 ^ j % 2 = 1 from of_decide_eq_true hbb)
        clear hbb
        obtain ⟨c6, hc6⟩ : ∃ zq : Fp, zq = (((c2 + c1) * (b + a)) - ((c2 - c1) * (b - a))) * ((c3 * c + c3 * c) - (cD * (c4 * d) + cD * (c4 * d))) := ⟨_, rfl⟩
        have HE6 := Lib.hid hc6
        clear hc6
        obtain ⟨c7, hc7⟩ : ∃ zq : Fp, zq = (((c2 + c1) * (b + a)) + ((c2 - c1) * (b - a))) * ((c3 * c + c3 * c) + (cD * (c4 * d) + cD * (c4 * d))) := ⟨_, rfl⟩
        have HE7 := Lib.hid hc7
        clear hc7
        obtain ⟨c8, hc8⟩ : ∃ zq : Fp, zq = ((c3 * c + c3 * c) + (cD * (c4 * d) + cD * (c4 * d))) * ((c3 * c + c3 * c) - (cD * (c4 * d) + cD * (c4 * d))) := ⟨_, rfl⟩
        have HE8 := Lib.hid hc8
        clear hc8
        obtain ⟨c9, hc9⟩ : ∃ zq : Fp, zq = (((c2 + c1) * (b + a)) - ((c2 - c1) * (b - a))) * (((c2 + c1) * (b + a)) + ((c2 - c1) * (b - a))) := ⟨_, rfl⟩
        have HE9 := Lib.hid hc9
        clear hc9
        have HQ10 := Lib.hid (fun w => add_any c1 c2 c3 c4 a b c d w)
        rw [← HE6.out, ← HE7.out, ← HE8.out, ← HE9.out] at HQ10
        have HP2 := Lib.hid (show runQ dblQ (fun e => addQ e (a, b, c, d)) k j (c6, c7, c8, c9) = tt by
          have h := HP.out
          rw [runQ, if_pos HBB.out] at h
          simp only [HE1.out, HE2.out, HE3.out, HE4.out, HE6.out, HE7.out, HE8.out, HE9.out]
          exact h)
        clear HP HBB
        go_upto_region 6 with fail
        refine wp_region_seq 3 ?_
        simp only [List.take_succ_cons, List.take_zero, List.drop_succ_cons, List.drop_zero]
        refine upW_val (by rfl) (by rfl) (by rfl) ?_
        intro K hK
        go_big_quiet_op
        refine hK _ ?_
        refine upW_val (by rfl) (by rfl) (by rfl) (fun K hK => quiet_load_ct _ _ rfl B2 rfl 76 (FR x y z t) 128 (FR_rw x y z t) _ HB2.out Try.underlying76 rfl (by kernel_rfl) (hK _ ?_))
        simp only [Act.put, List.setIfInBounds_toArray, List.set]
        refine upW_call (by rfl) (by rfl) (.agg (FR c1 c2 c3 c4)) _ rfl (by simp) (fun p => ?_) ?_
        · go_big_quiet_op
          exact ⟨_, fun q => Calls.ext_of (HQ5.out q.x), rfl⟩
        simp only [Act.put, List.setIfInBounds_toArray, List.set]
        refine upW_nil (fun wr5 hbr5 => ?_)
        replace HX0 := Lib.hid (HX0.out.ext hbr5)
        replace HX1 := Lib.hid (HX1.out.ext hbr5)
        replace HX2 := Lib.hid (HX2.out.ext hbr5)
        replace HB2 := Lib.hid (HB2.out.ext hbr5)
        replace HB := Lib.hid (HB.out.trans (hbr5.mono (show N ≤ _ by have := HB.out.size; have := HN.out; omega)))
        clear hbr5
        refine wpList_store_ct rfl 76 _ _ rfl B2 (FR c1 c2 c3 c4) rfl rfl 76 (FR x y z t) 128 HB2.out (by kernel_rfl) (FR_rw x y z t) (FR_rw c1 c2 c3 c4) rfl (fun wr6 hSwr6 hOwr6 hWwr6 => ?_)
        replace HB2 := Lib.hid hSwr6
        replace HB := Lib.hid (hWwr6 _ _ HB.out (by omega))
        replace HX0 := Lib.hid (HX0.out.other (hOwr6 _ (by omega)))
        replace HX1 := Lib.hid (HX1.out.other (hOwr6 _ (by omega)))
        replace HX2 := Lib.hid (HX2.out.other (hOwr6 _ (by omega)))
        clear hSwr6 hOwr6 hWwr6
        go_upto_region 7 with fail
        refine wp_region_seq 3 ?_
        simp only [List.take_succ_cons, List.take_zero, List.drop_succ_cons, List.drop_zero]
        refine upW_val (by rfl) (by rfl) (by rfl) (fun K hK => quiet_load_ct _ _ rfl (N + 1) rfl 34 (PB k) 32 (PB_rw k) _ HX1.out Try.underlying34 rfl (by kernel_rfl) (hK _ ?_))
        simp only [Act.put, List.setIfInBounds_toArray, List.set]
        refine upW_val (by rfl) (by rfl) (by rfl) ?_
        intro K hK
        go_big_quiet_op
        refine hK _ ?_
        refine upW_call (by rfl) (by rfl) (.bool true) _ rfl (by simp) (fun p => ?_) ?_
        · go_big_quiet_op
          exact ⟨_, fun q => Calls.ext_of (HQB.out q.x), rfl⟩
        simp only [Act.put, List.setIfInBounds_toArray, List.set]
        refine upW_nil (fun wr8 hbr8 => ?_)
        replace HX0 := Lib.hid (HX0.out.ext hbr8)
        replace HX1 := Lib.hid (HX1.out.ext hbr8)
        replace HX2 := Lib.hid (HX2.out.ext hbr8)
        replace HB2 := Lib.hid (HB2.out.ext hbr8)
        replace HB := Lib.hid (HB.out.trans (hbr8.mono (show N ≤ _ by have := HB.out.size; have := HN.out; omega)))
        clear hbr8
        go_upto_region 8 with fail
        refine wp_region_seq 4 ?_
        simp only [List.take_succ_cons, List.take_zero, List.drop_succ_cons, List.drop_zero]
        refine upW_val (by rfl) (by rfl) (by rfl) ?_
        intro K hK
        go_big_quiet_op
        refine hK _ ?_
        refine upW_val (by rfl) (by rfl) (by rfl) (fun K hK => quiet_load_ct _ _ rfl B2 rfl 76 (FR c1 c2 c3 c4) 128 (FR_rw c1 c2 c3 c4) _ HB2.out Try.underlying76 rfl (by kernel_rfl) (hK _ ?_))
        simp only [Act.put, List.setIfInBounds_toArray, List.set]
        refine upW_val (by rfl) (by rfl) (by rfl) (fun K hK => quiet_load_ct _ _ rfl N rfl 76 (FR a b c d) 128 (FR_rw a b c d) _ HX0.out Try.underlying76 rfl (by kernel_rfl) (hK _ ?_))
        simp only [Act.put, List.setIfInBounds_toArray, List.set]
        refine upW_call (by rfl) (by rfl) (.agg (FR c6 c7 c8 c9)) _ rfl (by simp) (fun p => ?_) ?_
        · go_big_quiet_op
          exact ⟨_, fun q => Calls.ext_of (HQ10.out q.x), rfl⟩
        simp only [Act.put, List.setIfInBounds_toArray, List.set]
        refine upW_nil (fun wr9 hbr9 => ?_)
        replace HX0 := Lib.hid (HX0.out.ext hbr9)
        replace HX1 := Lib.hid (HX1.out.ext hbr9)
        replace HX2 := Lib.hid (HX2.out.ext hbr9)
        replace HB2 := Lib.hid (HB2.out.ext hbr9)
        replace HB := Lib.hid (HB.out.trans (hbr9.mono (show N ≤ _ by have := HB.out.size; have := HN.out; omega)))
        clear hbr9
        refine wpList_store_ct rfl 76 _ _ rfl B2 (FR c6 c7 c8 c9) rfl rfl 76 (FR c1 c2 c3 c4) 128 HB2.out (by kernel_rfl) (FR_rw c1 c2 c3 c4) (FR_rw c6 c7 c8 c9) rfl (fun wr10 hSwr10 hOwr10 hWwr10 => ?_)
        replace HB2 := Lib.hid hSwr10
        replace HB := Lib.hid (hWwr10 _ _ HB.out (by omega))
        replace HX0 := Lib.hid (HX0.out.other (hOwr10 _ (by omega)))
        replace HX1 := Lib.hid (HX1.out.other (hOwr10 _ (by omega)))
        replace HX2 := Lib.hid (HX2.out.other (hOwr10 _ (by omega)))
        clear hSwr10 hOwr10 hWwr10
        go_wp2_with fail
        go_roundw
        case rel => exact ⟨j, (c6, c7, c8, c9), rfl, by omega, HP2, HX0.out, HX1.out, HX2.out, HB2.out, HB.out⟩
        case measure => simp [intOf]
end Go.Proofs.Ytfmclkmmkceldaa
