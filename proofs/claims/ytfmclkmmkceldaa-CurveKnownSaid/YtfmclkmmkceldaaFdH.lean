/-
  Folding a number of eight words.
  Conditions: none.
-/
import Derived.Test.YtfmclkmmkceldaaFdG
import Derived.Test.YtfmclkmmkceldaaFdM
namespace Go.Proofs.Ytfmclkmmkceldaa
open Go.RowKit

theorem s8 (l : List Nat) (h : l.length = 8) : (Try.prog.info? 104).map (·.size) = some (nums .u64 l).size := by rw [size_nums, h]; kernel_rfl
theorem z8 (w : World) : (zeroValue 104).run Try.prog w = .ok (.agg (nums .u64 (zer 8))) w :=
  (zero_of_info (P := Try.prog) (t := 104) (v := .agg (nums .u64 (zer 8))) (n := 8) (by kernel_rfl)).1 w
/-- The words done so far. -/
structure Fo (s : List Nat) (c k lo hi : Nat) : Prop where
  len : s.length = k
  lt : ∀ i, s.getD i 0 < 18446744073709551616
  over : c ≤ 39
  val : nv s + 18446744073709551616 ^ k * c = lo % 18446744073709551616 ^ k + 38 * (hi % 18446744073709551616 ^ k)
theorem Fo.start (lo hi : Nat) : Fo [] 0 0 lo hi := ⟨rfl, fun i => by simp, by decide, by simp [nv, Nat.mod_one]⟩
theorem Fo.step {s : List Nat} {c k lo hi x c' : Nat} (h : Fo s c k lo hi) (hx : x < 18446744073709551616) (he : wd hi k * 38 + wd lo k + c = x + 18446744073709551616 * c') : Fo (s ++ [x]) c' (k + 1) lo hi := by
  have h1 : wd hi k < 18446744073709551616 := Nat.mod_lt _ (by decide)
  have h2 : wd lo k < 18446744073709551616 := Nat.mod_lt _ (by decide)
  have h3 := h.over
  refine ⟨by rw [List.length_append, h.len]; rfl, fun i => ?_, by omega, ?_⟩
  · rw [List.getD_eq_getElem?_getD, List.getElem?_append]
    split
    · have := h.lt i; rwa [List.getD_eq_getElem?_getD] at this
    · rename_i hi2
      by_cases h0 : i - s.length = 0
      · rw [h0]; exact hx
      · rw [List.getElem?_eq_none (by simp; omega)]; decide
  · rw [nv_append, h.len, wd_step lo k, wd_step hi k, Nat.pow_succ, Nat.mul_assoc]
    have e := h.val
    simp only [nv, Nat.mul_zero, Nat.add_zero]
    generalize 18446744073709551616 ^ k = K at e ⊢
    generalize nv s = S at e ⊢
    have e2 : K * (wd hi k * 38) + K * wd lo k + K * c = K * x + K * (18446744073709551616 * c') := by rw [← Nat.mul_add, ← Nat.mul_add, ← Nat.mul_add, he]
    have e3 : 38 * (K * wd hi k) = K * (wd hi k * 38) := by rw [Nat.mul_left_comm, Nat.mul_comm 38]
    rw [Nat.mul_add, e3]
    omega
theorem Fo.done {s : List Nat} {c lo hi : Nat} (h : Fo s c 4 lo hi) (hl : lo < 115792089237316195423570985008687907853269984665640564039457584007913129639936) (hh : hi < 115792089237316195423570985008687907853269984665640564039457584007913129639936) : s = w4 (f1 (lo, hi)).1 ∧ c = (f1 (lo, hi)).2 := by
  have e := h.val
  have e1 := nv_lt s h.lt
  rw [h.len] at e1
  rw [show 18446744073709551616 ^ 4 = 115792089237316195423570985008687907853269984665640564039457584007913129639936 by decide] at e e1
  rw [Nat.mod_eq_of_lt hl, Nat.mod_eq_of_lt hh] at e
  have a1 : (f1 (lo, hi)).1 = nv s := by show (lo + 38 * hi) % 115792089237316195423570985008687907853269984665640564039457584007913129639936 = _; rw [← e, Nat.add_mul_mod_self_left, Nat.mod_eq_of_lt e1]
  have a2 : (f1 (lo, hi)).2 = c := by show (lo + 38 * hi) / 115792089237316195423570985008687907853269984665640564039457584007913129639936 = _; rw [← e]; omega
  rw [a1, a2]
  exact ⟨(w4_nv s h.len h.lt).symm, rfl⟩
theorem app_set (s : List Nat) (k x : Nat) (hs : s.length = k) (hk : k < 4) : (s ++ (zer 4).drop k).set k x = (s ++ [x]) ++ (zer 4).drop (k + 1) := by
  subst hs
  have e := List.drop_eq_getElem_cons (l := zer 4) (i := s.length) (by rw [zer_len]; exact hk)
  rw [List.set_append_right _ _ (Nat.le_refl _), Nat.sub_self, e, List.set_cons_zero, List.append_assoc]
  rfl
theorem w8_get (lo hi k : Nat) (hk : k < 4) : (w4 lo ++ w4 hi).getD k 0 = wd lo k ∧ (w4 lo ++ w4 hi).getD (k + 4) 0 = wd hi k := by
  constructor
  · rw [List.getD_eq_getElem?_getD, List.getElem?_append_left (by rw [w4_len]; exact hk), ← List.getD_eq_getElem?_getD, w4_get lo k hk]
  · rw [List.getD_eq_getElem?_getD, List.getElem?_append_right (by rw [w4_len]; omega), w4_len, show k + 4 - 4 = k by omega, ← List.getD_eq_getElem?_getD, w4_get hi k hk]
theorem w8_len (lo hi : Nat) : (w4 lo ++ w4 hi).length = 8 := rfl
set_option maxRecDepth 100000 in
set_option maxHeartbeats 1000000 in
theorem foldC_any (lo hi : Nat) (w : World) (hlo : lo < 115792089237316195423570985008687907853269984665640564039457584007913129639936) (hhi : hi < 115792089237316195423570985008687907853269984665640564039457584007913129639936) :
    Calls Try.prog 116 #[.agg (nums .u64 (w4 lo ++ w4 hi))] w fun e w' => e = .returned (.agg (nums .u64 (w4 (fo lo hi)))) ∧ Below w.heap.size w w' := by
  have HLO := Lib.hid hlo
  have HHI := Lib.hid hhi
  have hz := zC
  clear hlo hhi
  go_enter Try.func116, Try.ntmps116
  go_upto_region 2 with fail
  generalize hW1 : World.alloc _ _ = W1
  obtain ⟨N, hN⟩ : ∃ n, w.heap.size = n := ⟨_, rfl⟩
  have HR1 := Lib.hid (show RW W1 N .u64 104 (w4 lo ++ w4 hi) by subst hW1; rw [← hN]; exact (alloc3_at w _ _ _).1)
  have HR2 := Lib.hid (show RW W1 (N + 1) .u64 70 (zer 4) by subst hW1; rw [← hN]; exact (alloc3_at w _ _ _).2.1)
  have HR3 := Lib.hid (show RW W1 (N + 1 + 1) .u64 70 ([] ++ (zer 4).drop 0) by subst hW1; rw [← hN]; exact (alloc3_at w _ _ _).2.2)
  have HB1 := Lib.hid (show Below N w W1 by subst hW1; rw [← hN]; exact Below.alloc3 w _ _ _)
  have HN := Lib.hid hN
  rw [hN]
  clear hW1 hN hz
  go_wp2_with fail
  go_loopw [4, 6] (fun cv iv wr => ∃ (k c : Nat) (s : List Nat), iv = .int .i64 k ∧ cv = .int .u64 c ∧ k ≤ 4 ∧ Fo s c k lo hi ∧ RW wr N .u64 104 (w4 lo ++ w4 hi) ∧ RW wr (N + 1) .u64 70 (zer 4) ∧ RW wr (N + 1 + 1) .u64 70 (s ++ (zer 4).drop k) ∧ Below N w wr) (fun _ i _ => 4 - (intOf i).toNat)
  case atStart => exact ⟨0, 0, [], rfl, rfl, Nat.zero_le _, Fo.start lo hi, HR1.out, HR2.out, HR3.out, HB1.out⟩
  case round =>
    obtain ⟨k, c, s, rfl, rfl, hk, hfo, hr1, hr2, hr3, hbel⟩ := hrel
    have HF := Lib.hid hfo
    have HA1 := Lib.hid hr1
    have HA2 := Lib.hid hr2
    have HA3 := Lib.hid hr3
    have HBE := Lib.hid hbel
    clear hfo hr1 hr2 hr3 hbel HR1 HR2 HR3 HB1
    by_cases hlt : k < 4
    · have hlt' : (k : Int) < 4 := by omega
      have i1 : IntKind.i64.wrap ((k : Int) + 4) = (k : Int) + 4 := by rw [IntKind.wrap_i64]; omega
      have i2 : (0 : Int) ≤ (k : Int) + 4 := by omega
      have i3 : (k : Int) + 4 < 8 := by omega
      have i4 : ((k : Int) + 4).toNat = k + 4 := by omega
      have i5 : (k : Int) < 8 := by omega
      have c1 := HA1.out.cell (i := k) (by rw [w8_len]; omega)
      have c2 := HA1.out.cell (i := k + 4) (by rw [w8_len]; omega)
      rw [(w8_get lo hi k hlt).1] at c1
      rw [(w8_get lo hi k hlt).2] at c2
      have h1 : wd hi k < 18446744073709551616 := Nat.mod_lt _ (by decide)
      have h2 : wd lo k < 18446744073709551616 := Nat.mod_lt _ (by decide)
      obtain ⟨x, hx⟩ : ∃ x, (wd hi k * 38 + wd lo k + c) % 18446744073709551616 = x := ⟨_, rfl⟩
      obtain ⟨c', hc'⟩ : ∃ x, (wd hi k * 38 + wd lo k + c) / 18446744073709551616 = x := ⟨_, rfl⟩
      have h3 := HF.out.over
      have he : wd hi k * 38 + wd lo k + c = x + 18446744073709551616 * c' := by rw [← hx, ← hc', Nat.mod_add_div]
      have hxl : x < 18446744073709551616 := by rw [← hx]; exact Nat.mod_lt _ (by decide)
      have HF2 := Lib.hid (HF.out.step hxl he)
      have HME := Lib.hid (fun w => (mulAdd_any (wd hi k) 38 (wd lo k) c x c' w h1 (by decide) h2 (by omega) hxl he).mono (R' := fun e w' => e = .returned (.tuple #[.int .u64 (x : Int), .int .u64 (c' : Int)]) ∧ Below w.heap.size w w') (fun e w' h => ⟨h.1, by rw [h.2]; exact Below.refl _ _⟩))
      have HAS := Lib.hid (app_set s k x HF.out.len hlt)
      generalize wd hi k = y at c2 HME
      generalize wd lo k = z at c1 HME
      clear h1 h2 hx hc' h3 he hxl
      have f1 := HA3.out.frozen k
      have c3 := HA3.out.cell (i := k) (by have := HF.out.len; simp only [List.length_append, List.length_drop, zer_len]; omega)
      generalize (s ++ (zer 4).drop k).getD k 0 = oo at c3
      have k1 := fun p => Ext.cell c1 p
      have k2 := fun p => Ext.cell c2 p
      go_wp2_with fail
      refine wp_region_up 14 12 (by kernel_rfl) (by kernel_rfl) (fun _ _ dst _ _ h => by cases dst <;> exact h) ?_
      simp only [List.take_succ_cons, List.take_zero, List.drop_succ_cons, List.drop_zero]
      refine upW_val (by rfl) (by rfl) (by rfl) ?_
      intro K hK
      go_big_quiet_op
      refine hK _ ?_
      refine upW_val (by rfl) (by rfl) (by rfl) ?_
      intro K hK
      go_big_quiet_op
      refine hK _ ?_
      refine upW_val (by rfl) (by rfl) (by rfl) ?_
      intro K hK
      go_big_quiet_op
      refine hK _ ?_
      refine upW_val (by rfl) (by rfl) (by rfl) ?_
      intro K hK
      go_big_quiet_op
      refine hK _ ?_
      refine upW_val (by rfl) (by rfl) (by rfl) ?_
      intro K hK
      go_big_quiet_op
      refine hK _ ?_
      refine upW_val (by rfl) (by rfl) (by rfl) ?_
      intro K hK
      go_big_quiet_op
      refine hK _ ?_
      refine upW_val (by rfl) (by rfl) (by rfl) ?_
      intro K hK
      go_big_quiet_op
      refine hK _ ?_
      refine upW_val (by rfl) (by rfl) (by rfl) ?_
      intro K hK
      go_big_quiet_op
      refine hK _ ?_
      refine upW_val (by rfl) (by rfl) (by rfl) ?_
      intro K hK
      go_big_quiet_op
      refine hK _ ?_
      refine upW_call (by rfl) (by rfl) (.tuple #[.int .u64 (x : Int), .int .u64 (c' : Int)]) _ rfl (by simp) (fun p => ?_) ?_
      · go_big_quiet_op
        exact ⟨_, fun q => Calls.ext_of (HME.out q.x), rfl⟩
      simp only [Act.put, List.setIfInBounds_toArray, List.set]
      refine upW_val (by rfl) (by rfl) (by rfl) ?_
      intro K hK
      go_big_quiet_op
      refine hK _ ?_
      refine upW_late (by rfl) (.int .u64 (x : Int)) (fun _ => rfl) ?_
      simp only [Act.put, List.setIfInBounds_toArray, List.set]
      refine upW_late (by rfl) (.int .u64 (c' : Int)) (fun _ => rfl) ?_
      simp only [Act.put, List.setIfInBounds_toArray, List.set]
      refine upW_val (by rfl) (by rfl) (by rfl) ?_
      intro K hK
      go_big_quiet_op
      refine hK _ ?_
      refine upW_nil (fun wy hby => ?_)
      have HY1 := Lib.hid (HA1.out.ext hby)
      have HY2 := Lib.hid (HA2.out.ext hby)
      have HY3 := Lib.hid (HA3.out.ext hby)
      have HYB := Lib.hid (HBE.out.trans (hby.mono (show N ≤ wr.heap.size by have := HA3.out.lt; omega)))
      clear hby HA1 HA2 HA3 HBE k1 k2 c1 c2 c3 f1
      have f1 := HY3.out.frozen k
      have c3 := HY3.out.cell (i := k) (by have := HF.out.len; simp only [List.length_append, List.length_drop, zer_len]; omega)
      generalize (s ++ (zer 4).drop k).getD k 0 = oo at c3
      go_wp2_with fail
      go_roundw
      case rel => exact ⟨k + 1, c', s ++ [x], rfl, rfl, hlt, HF2.out, HY1.out.other (setCell_other _ (by omega)), HY2.out.other (setCell_other _ (by omega)), by rw [← HAS.out]; exact HY3.out.set x, HYB.out.setCell (p := ⟨N + 1 + 1, k, none⟩) (by show N ≤ N + 1 + 1; omega) _⟩
      case measure => simp [intOf]; omega
    · have hlt' : ¬ (k : Int) < 4 := by omega
      have hk4 : k = 4 := by omega
      subst hk4
      have HS2 := Lib.hid (HF.out.done HLO.out HHI.out)
      have h3 := HA3.out
      rw [HS2.out.1, List.drop_eq_nil_of_le (by rw [zer_len]; exact Nat.le_refl _), List.append_nil] at h3
      have H3 := Lib.hid h3
      have HB0 := Lib.hid (fb_start lo hi HLO.out HHI.out)
      have HC := Lib.hid HS2.out.2
      have HFO := Lib.hid (show fk 2 (f1 (lo, hi)) = fo lo hi from rfl)
      obtain ⟨q0, hq0⟩ : ∃ q, f1 (lo, hi) = q := ⟨_, rfl⟩
      rw [hq0] at H3 HB0 HC HFO
      clear h3 hq0 HA3 HF HS2 HA1
      go_wp2_with fail
      go_loopg [4] 2 (fun gk cv wr => ∃ m c : Nat, cv = .int .u64 (c : Int) ∧ fb gk (m, c) ∧ fk gk (m, c) = fo lo hi ∧ RW wr (N + 1) .u64 70 (zer 4) ∧ RW wr (N + 1 + 1) .u64 70 (w4 m) ∧ Below N w wr)
      case atStart => exact ⟨q0.1, q0.2, by rw [HC.out], HB0.out, HFO.out, HA2.out, H3.out, HBE.out⟩
      case round =>
        obtain ⟨m, c, rfl, hfb, hfk, hr2, hr3, hbel⟩ := hrel
        have HFB := Lib.hid hfb
        have HFK := Lib.hid hfk
        have HA2 := Lib.hid hr2
        have HA3 := Lib.hid hr3
        have HBE := Lib.hid hbel
        have HSM := Lib.hid (sC m)
        clear hfb hfk hr2 hr3 hbel
        by_cases hc0 : c = 0
        · subst hc0
          have HR := Lib.hid (show fo lo hi = m by rw [← HFK.out]; exact fk_zero m (fb_lt _ _ HFB.out) gk)
          have HO := Lib.hid (show (nums .u64 (zer 4)).size = (nums .u64 (w4 m)).size by rw [size_nums, size_nums, zer_len, w4_len])
          go_wp2_with (first
            | (refine wpList_load_row rfl 70 _ rfl (N + 1 + 1) rfl 70 (nums .u64 (w4 m)) (0, 0) _ HA3.out Try.underlying70 rfl HSM.out ?_)
            | (refine wpList_store_row rfl 70 _ _ rfl (N + 1) (nums .u64 (w4 m)) rfl rfl 70 _ HA2.out HSM.out HO.out (nums_one _ _) ?_)
            )
          refine bodyPost_ret (results_cell_row (by rfl) _ _ (N + 1) 70 (nums .u64 (w4 m)) (0, 0) _ (by rfl) (setRow_heap _ _ _ _ _ _ HA2.out) Try.underlying70 rfl HSM.out) rfl ⟨by rw [HR.out], ?_⟩
          rw [HN.out]
          exact Below.setRow HBE.out (by omega) _
        · have hc1 : ¬ (c : Int) = 0 := by omega
          obtain ⟨gk', rfl⟩ : ∃ g, gk = g + 1 := by
            cases gk with
            | zero => exact absurd (fb_zero _ HFB.out) hc0
            | succ g => exact ⟨g, rfl⟩
          have HC39 := Lib.hid (fb_small _ _ HFB.out)
          have HF1 := Lib.hid (fb_step _ _ HFB.out)
          have HF2 := Lib.hid (show fk gk' (f1 (m, c)) = fo lo hi from HFK.out)
          obtain ⟨y, hy⟩ : ∃ y, 38 * c = y := ⟨_, rfl⟩
          have i1 : IntKind.u64.wrap ((c : Int) * 38) = (y : Int) := by have := HC39.out; rw [IntKind.wrap_u64]; omega
          have hyl : y < 18446744073709551616 := by have := HC39.out; omega
          obtain ⟨r, hr⟩ : ∃ r, (f1 (m, c)).1 = r := ⟨_, rfl⟩
          obtain ⟨c', hc'⟩ : ∃ r, (f1 (m, c)).2 = r := ⟨_, rfl⟩
          have hf1 : f1 (m, c) = (r, c') := by rw [← hr, ← hc']
          rw [hf1] at HF1 HF2
          have hsum : m + y = r + 115792089237316195423570985008687907853269984665640564039457584007913129639936 * c' := by rw [← hr, ← hc', ← hy]; exact (Nat.mod_add_div _ _).symm
          have hrl : r < 115792089237316195423570985008687907853269984665640564039457584007913129639936 := by rw [← hr]; exact f1_lt _
          have hml := fb_lt _ _ HFB.out
          have HPL := Lib.hid (fun w => plusC_any m y r c' w hml (by omega) hrl hsum)
          rw [show w4 y = [y, 0, 0, 0] from w4_of y 0 0 0 y hyl (by decide) (by decide) (by decide) (by omega)] at HPL
          have HSR := Lib.hid (sC r)
          have HO := Lib.hid (show (nums .u64 (w4 m)).size = (nums .u64 (w4 r)).size by rw [size_nums, size_nums, w4_len, w4_len])
          clear hy hyl hr hc' hf1 hsum hrl hml
          go_wp2_with (first
            | (refine wpList_load_row rfl 70 _ rfl (N + 1 + 1) rfl 70 (nums .u64 (w4 m)) (0, 0) _ HA3.out Try.underlying70 rfl HSM.out ?_)
            | (refine wpList_build' rfl 70 _ rfl (nums .u64 [y, 0, 0, 0]) (by kernel_rfl) ?_))
          refine (HPL.out _).mono ?_
          rintro e w2 ⟨rfl, hb2⟩
          have HY2 := Lib.hid (HA2.out.ext hb2)
          have HY3 := Lib.hid (HA3.out.ext hb2)
          have HYB := Lib.hid (HBE.out.trans (hb2.mono (show N ≤ wr.heap.size by have := HA3.out.lt; omega)))
          clear hb2
          go_wp2_with (refine wpList_store_row rfl 70 _ _ rfl (N + 1 + 1) (nums .u64 (w4 r)) rfl rfl 70 _ HY3.out HSR.out HO.out (nums_one _ _) ?_)
          go_roundg gk'
          case measure => omega
          case rel => exact ⟨r, c', rfl, HF1.out, HF2.out, HY2.out.other (setRow_other _ _ _ _ (by omega)), setRow_heap _ _ _ _ _ _ HY3.out, Below.setRow HYB.out (by omega) _⟩
end Go.Proofs.Ytfmclkmmkceldaa
