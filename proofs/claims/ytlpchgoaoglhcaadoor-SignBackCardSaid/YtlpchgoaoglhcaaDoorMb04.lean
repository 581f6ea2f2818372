/-
  Folding a number of eight words.
  Products: times, square.
  Arrays of words and of bytes: whether they are the same.
  Powers, what undoes a number, roots.
  Conditions: none.
-/
import Derived.Test.YtlpchgoaoglhcaaDoorMb03
import Derived.Test.YtlpchgoaoglhcaaDoorMb00
import Derived.Laws.StructEq
import Derived.ChangeKeysEq
namespace Go.Proofs.YtlpchgoaoglhcaaDoor
open Go.RowKit
theorem s8 (l : List Nat) (h : l.length = 8) : (Tryd.prog.info? 53).map (·.size) = some (nums .u64 l).size := by rw [size_nums, h]; kernel_rfl
theorem z8 (w : World) : (zeroValue 53).run Tryd.prog w = .ok (.agg (nums .u64 (zer 8))) w :=
  (zero_of_info (P := Tryd.prog) (t := 53) (v := .agg (nums .u64 (zer 8))) (n := 8) (by kernel_rfl)).1 w
/-- The words done so far. -/
structure Fo (s : List Nat) (c k lo hi : Nat) : Prop where
  len : s.length = k
  lt : ∀ i, s.getD i 0 < 18446744073709551616
  over : c ≤ 39
  val : nv s + 18446744073709551616 ^ k * c = lo % 18446744073709551616 ^ k + 38 * (hi % 18446744073709551616 ^ k)
theorem Fo.start (lo hi : Nat) : Fo [] 0 0 lo hi := ⟨rfl, fun i => by simp, by decide, by simp [nv, Nat.mod_one]⟩
theorem Fo.step {s : List Nat} {c k lo hi x c' : Nat} (h : Fo s c k lo hi) (hx : x < 18446744073709551616) (he : wd hi k * 38 + wd lo k + c = x + 18446744073709551616 * c') : Fo (s ++ [x]) c' (k + 1) lo hi := by
  have h1 : wd hi k < 18446744073709551616 := Nat.mod_lt _ (by decide)
  have h2 : wd lo k < 18446744073709551616 := Nat.mod_lt _ (by decide)
  have h3 := h.over
  refine ⟨by rw [List.length_append, h.len]; rfl, fun i => ?_, by omega, ?_⟩
  · rw [List.getD_eq_getElem?_getD, List.getElem?_append]
    split
    · have := h.lt i; rwa [List.getD_eq_getElem?_getD] at this
    · rename_i hi2
      by_cases h0 : i - s.length = 0
      · rw [h0]; exact hx
      · rw [List.getElem?_eq_none (by simp; omega)]; decide
  · rw [nv_append, h.len, wd_step lo k, wd_step hi k, Nat.pow_succ, Nat.mul_assoc]
    have e := h.val
    simp only [nv, Nat.mul_zero, Nat.add_zero]
    generalize 18446744073709551616 ^ k = K at e ⊢
    generalize nv s = S at e ⊢
    have e2 : K * (wd hi k * 38) + K * wd lo k + K * c = K * x + K * (18446744073709551616 * c') := by rw [← Nat.mul_add, ← Nat.mul_add, ← Nat.mul_add, he]
    have e3 : 38 * (K * wd hi k) = K * (wd hi k * 38) := by rw [Nat.mul_left_comm, Nat.mul_comm 38]
    rw [Nat.mul_add, e3]
    omega
theorem Fo.done {s : List Nat} {c lo hi : Nat} (h : Fo s c 4 lo hi) (hl : lo < 115792089237316195423570985008687907853269984665640564039457584007913129639936) (hh : hi < 115792089237316195423570985008687907853269984665640564039457584007913129639936) : s = w4 (f1 (lo, hi)).1 ∧ c = (f1 (lo, hi)).2 := by
  have e := h.val
  have e1 := nv_lt s h.lt
  rw [h.len] at e1
  rw [show 18446744073709551616 ^ 4 = 115792089237316195423570985008687907853269984665640564039457584007913129639936 by decide] at e e1
  rw [Nat.mod_eq_of_lt hl, Nat.mod_eq_of_lt hh] at e
  have a1 : (f1 (lo, hi)).1 = nv s := by show (lo + 38 * hi) % 115792089237316195423570985008687907853269984665640564039457584007913129639936 = _; rw [← e, Nat.add_mul_mod_self_left, Nat.mod_eq_of_lt e1]
  have a2 : (f1 (lo, hi)).2 = c := by show (lo + 38 * hi) / 115792089237316195423570985008687907853269984665640564039457584007913129639936 = _; rw [← e]; omega
  rw [a1, a2]
  exact ⟨(w4_nv s h.len h.lt).symm, rfl⟩
theorem app_set (s : List Nat) (k x : Nat) (hs : s.length = k) (hk : k < 4) : (s ++ (zer 4).drop k).set k x = (s ++ [x]) ++ (zer 4).drop (k + 1) := by
  subst hs
  have e := List.drop_eq_getElem_cons (l := zer 4) (i := s.length) (by rw [zer_len]; exact hk)
  rw [List.set_append_right _ _ (Nat.le_refl _), Nat.sub_self, e, List.set_cons_zero, List.append_assoc]
  rfl
theorem w8_get (lo hi k : Nat) (hk : k < 4) : (w4 lo ++ w4 hi).getD k 0 = wd lo k ∧ (w4 lo ++ w4 hi).getD (k + 4) 0 = wd hi k := by
  constructor
  · rw [List.getD_eq_getElem?_getD, List.getElem?_append_left (by rw [w4_len]; exact hk), ← List.getD_eq_getElem?_getD, w4_get lo k hk]
  · rw [List.getD_eq_getElem?_getD, List.getElem?_append_right (by rw [w4_len]; omega), w4_len, show k + 4 - 4 = k by omega, ← List.getD_eq_getElem?_getD, w4_get hi k hk]
theorem w8_len (lo hi : Nat) : (w4 lo ++ w4 hi).length = 8 := rfl
set_option maxRecDepth 100000 in
set_option maxHeartbeats 1000000 in
theorem foldC_any (lo hi : Nat) (w : World) (hlo : lo < 115792089237316195423570985008687907853269984665640564039457584007913129639936) (hhi : hi < 115792089237316195423570985008687907853269984665640564039457584007913129639936) :
    Calls Tryd.prog 109 #[.agg (nums .u64 (w4 lo ++ w4 hi))] w fun e w' => e = .returned (.agg (nums .u64 (w4 (fo lo hi)))) ∧ Below w.heap.size w w' := by
  have HLO := Lib.hid hlo
  have HHI := Lib.hid hhi
  have hz := zC
  clear hlo hhi
  go_enter Tryd.func109, Tryd.ntmps109
  go_upto_region 2 with fail
  generalize hW1 : World.alloc _ _ = W1
  obtain ⟨N, hN⟩ : ∃ n, w.heap.size = n := ⟨_, rfl⟩
  have HR1 := Lib.hid (show RW W1 N .u64 53 (w4 lo ++ w4 hi) by subst hW1; rw [← hN]; exact (alloc3_at w _ _ _).1)
  have HR2 := Lib.hid (show RW W1 (N + 1) .u64 135 (zer 4) by subst hW1; rw [← hN]; exact (alloc3_at w _ _ _).2.1)
  have HR3 := Lib.hid (show RW W1 (N + 1 + 1) .u64 135 ([] ++ (zer 4).drop 0) by subst hW1; rw [← hN]; exact (alloc3_at w _ _ _).2.2)
  have HB1 := Lib.hid (show Below N w W1 by subst hW1; rw [← hN]; exact Below.alloc3 w _ _ _)
  have HN := Lib.hid hN
  rw [hN]
  clear hW1 hN hz
  go_wp2_with fail
  go_loopw [4, 6] (fun cv iv wr => ∃ (k c : Nat) (s : List Nat), iv = .int .i64 k ∧ cv = .int .u64 c ∧ k ≤ 4 ∧ Fo s c k lo hi ∧ RW wr N .u64 53 (w4 lo ++ w4 hi) ∧ RW wr (N + 1) .u64 135 (zer 4) ∧ RW wr (N + 1 + 1) .u64 135 (s ++ (zer 4).drop k) ∧ Below N w wr) (fun _ i _ => 4 - (intOf i).toNat)
  case atStart => exact ⟨0, 0, [], rfl, rfl, Nat.zero_le _, Fo.start lo hi, HR1.out, HR2.out, HR3.out, HB1.out⟩
  case round =>
    obtain ⟨k, c, s, rfl, rfl, hk, hfo, hr1, hr2, hr3, hbel⟩ := hrel
    have HF := Lib.hid hfo
    have HA1 := Lib.hid hr1
    have HA2 := Lib.hid hr2
    have HA3 := Lib.hid hr3
    have HBE := Lib.hid hbel
    clear hfo hr1 hr2 hr3 hbel HR1 HR2 HR3 HB1
    by_cases hlt : k < 4
    · have hlt' : (k : Int) < 4 := by omega
      have i1 : IntKind.i64.wrap ((k : Int) + 4) = (k : Int) + 4 := by rw [IntKind.wrap_i64]; omega
      have i2 : (0 : Int) ≤ (k : Int) + 4 := by omega
      have i3 : (k : Int) + 4 < 8 := by omega
      have i4 : ((k : Int) + 4).toNat = k + 4 := by omega
      have i5 : (k : Int) < 8 := by omega
      have c1 := HA1.out.cell (i := k) (by rw [w8_len]; omega)
      have c2 := HA1.out.cell (i := k + 4) (by rw [w8_len]; omega)
      rw [(w8_get lo hi k hlt).1] at c1
      rw [(w8_get lo hi k hlt).2] at c2
      have h1 : wd hi k < 18446744073709551616 := Nat.mod_lt _ (by decide)
      have h2 : wd lo k < 18446744073709551616 := Nat.mod_lt _ (by decide)
      obtain ⟨x, hx⟩ : ∃ x, (wd hi k * 38 + wd lo k + c) % 18446744073709551616 = x := ⟨_, rfl⟩
      obtain ⟨c', hc'⟩ : ∃ x, (wd hi k * 38 + wd lo k + c) / 18446744073709551616 = x := ⟨_, rfl⟩
      have h3 := HF.out.over
      have he : wd hi k * 38 + wd lo k + c = x + 18446744073709551616 * c' := by rw [← hx, ← hc', Nat.mod_add_div]
      have hxl : x < 18446744073709551616 := by rw [← hx]; exact Nat.mod_lt _ (by decide)
      have HF2 := Lib.hid (HF.out.step hxl he)
      have HME := Lib.hid (fun w => (mulAdd_any (wd hi k) 38 (wd lo k) c x c' w h1 (by decide) h2 (by omega) hxl he).mono (R' := fun e w' => e = .returned (.tuple #[.int .u64 (x : Int), .int .u64 (c' : Int)]) ∧ Below w.heap.size w w') (fun e w' h => ⟨h.1, by rw [h.2]; exact Below.refl _ _⟩))
      have HAS := Lib.hid (app_set s k x HF.out.len hlt)
      generalize wd hi k = y at c2 HME
      generalize wd lo k = z at c1 HME
      clear h1 h2 hx hc' h3 he hxl
      have f1 := HA3.out.frozen k
      have c3 := HA3.out.cell (i := k) (by have := HF.out.len; simp only [List.length_append, List.length_drop, zer_len]; omega)
      generalize (s ++ (zer 4).drop k).getD k 0 = oo at c3
      have k1 := fun p => Ext.cell c1 p
      have k2 := fun p => Ext.cell c2 p
      go_wp2_with fail
      refine wp_region_up 14 12 (by kernel_rfl) (by kernel_rfl) (fun _ _ dst _ _ h => by cases dst <;> exact h) ?_
      simp only [List.take_succ_cons, List.take_zero, List.drop_succ_cons, List.drop_zero]
      refine upW_val (by rfl) (by rfl) (by rfl) ?_
      intro K hK
      go_big_quiet_op
      refine hK _ ?_
      refine upW_val (by rfl) (by rfl) (by rfl) ?_
      intro K hK
      go_big_quiet_op
      refine hK _ ?_
      refine upW_val (by rfl) (by rfl) (by rfl) ?_
      intro K hK
      go_big_quiet_op
      refine hK _ ?_
      refine upW_val (by rfl) (by rfl) (by rfl) ?_
      intro K hK
      go_big_quiet_op
      refine hK _ ?_
      refine upW_val (by rfl) (by rfl) (by rfl) ?_
      intro K hK
      go_big_quiet_op
      refine hK _ ?_
      refine upW_val (by rfl) (by rfl) (by rfl) ?_
      intro K hK
      go_big_quiet_op
      refine hK _ ?_
      refine upW_val (by rfl) (by rfl) (by rfl) ?_
      intro K hK
      go_big_quiet_op
      refine hK _ ?_
      refine upW_val (by rfl) (by rfl) (by rfl) ?_
      intro K hK
      go_big_quiet_op
      refine hK _ ?_
      refine upW_val (by rfl) (by rfl) (by rfl) ?_
      intro K hK
      go_big_quiet_op
      refine hK _ ?_
      refine upW_call (by rfl) (by rfl) (.tuple #[.int .u64 (x : Int), .int .u64 (c' : Int)]) _ rfl (by simp) (fun p => ?_) ?_
      · go_big_quiet_op
        exact ⟨_, fun q => Calls.ext_of (HME.out q.x), rfl⟩
      simp only [Act.put, List.setIfInBounds_toArray, List.set]
      refine upW_val (by rfl) (by rfl) (by rfl) ?_
      intro K hK
      go_big_quiet_op
      refine hK _ ?_
      refine upW_late (by rfl) (.int .u64 (x : Int)) (fun _ => rfl) ?_
      simp only [Act.put, List.setIfInBounds_toArray, List.set]
      refine upW_late (by rfl) (.int .u64 (c' : Int)) (fun _ => rfl) ?_
      simp only [Act.put, List.setIfInBounds_toArray, List.set]
      refine upW_val (by rfl) (by rfl) (by rfl) ?_
      intro K hK
      go_big_quiet_op
      refine hK _ ?_
      refine upW_nil (fun wy hby => ?_)
      have HY1 := Lib.hid (HA1.out.ext hby)
      have HY2 := Lib.hid (HA2.out.ext hby)
      have HY3 := Lib.hid (HA3.out.ext hby)
      have HYB := Lib.hid (HBE.out.trans (hby.mono (show N ≤ wr.heap.size by have := HA3.out.lt; omega)))
      clear hby HA1 HA2 HA3 HBE k1 k2 c1 c2 c3 f1
      have f1 := HY3.out.frozen k
      have c3 := HY3.out.cell (i := k) (by have := HF.out.len; simp only [List.length_append, List.length_drop, zer_len]; omega)
      generalize (s ++ (zer 4).drop k).getD k 0 = oo at c3
      go_wp2_with fail
      go_roundw
      case rel => exact ⟨k + 1, c', s ++ [x], rfl, rfl, hlt, HF2.out, HY1.out.other (setCell_other _ (by omega)), HY2.out.other (setCell_other _ (by omega)), by rw [← HAS.out]; exact HY3.out.set x, HYB.out.setCell (p := ⟨N + 1 + 1, k, none⟩) (by show N ≤ N + 1 + 1; omega) _⟩
      case measure => simp [intOf]; omega
    · have hlt' : ¬ (k : Int) < 4 := by omega
      have hk4 : k = 4 := by omega
      subst hk4
      have HS2 := Lib.hid (HF.out.done HLO.out HHI.out)
      have h3 := HA3.out
      rw [HS2.out.1, List.drop_eq_nil_of_le (by rw [zer_len]; exact Nat.le_refl _), List.append_nil] at h3
      have H3 := Lib.hid h3
      have HB0 := Lib.hid (fb_start lo hi HLO.out HHI.out)
      have HC := Lib.hid HS2.out.2
      have HFO := Lib.hid (show fk 2 (f1 (lo, hi)) = fo lo hi from rfl)
      obtain ⟨q0, hq0⟩ : ∃ q, f1 (lo, hi) = q := ⟨_, rfl⟩
      rw [hq0] at H3 HB0 HC HFO
      clear h3 hq0 HA3 HF HS2 HA1
      go_wp2_with fail
      go_loopg [4] 2 (fun gk cv wr => ∃ m c : Nat, cv = .int .u64 (c : Int) ∧ fb gk (m, c) ∧ fk gk (m, c) = fo lo hi ∧ RW wr (N + 1) .u64 135 (zer 4) ∧ RW wr (N + 1 + 1) .u64 135 (w4 m) ∧ Below N w wr)
      case atStart => exact ⟨q0.1, q0.2, by rw [HC.out], HB0.out, HFO.out, HA2.out, H3.out, HBE.out⟩
      case round =>
        obtain ⟨m, c, rfl, hfb, hfk, hr2, hr3, hbel⟩ := hrel
        have HFB := Lib.hid hfb
        have HFK := Lib.hid hfk
        have HA2 := Lib.hid hr2
        have HA3 := Lib.hid hr3
        have HBE := Lib.hid hbel
        have HSM := Lib.hid (sC m)
        clear hfb hfk hr2 hr3 hbel
        by_cases hc0 : c = 0
        · subst hc0
          have HR := Lib.hid (show fo lo hi = m by rw [← HFK.out]; exact fk_zero m (fb_lt _ _ HFB.out) gk)
          have HO := Lib.hid (show (nums .u64 (zer 4)).size = (nums .u64 (w4 m)).size by rw [size_nums, size_nums, zer_len, w4_len])
          go_wp2_with (first
            | (refine wpList_load_row rfl 135 _ rfl (N + 1 + 1) rfl 135 (nums .u64 (w4 m)) (0, 0) _ HA3.out Tryd.underlying135 rfl HSM.out ?_)
            | (refine wpList_store_row rfl 135 _ _ rfl (N + 1) (nums .u64 (w4 m)) rfl rfl 135 _ HA2.out HSM.out HO.out (nums_one _ _) ?_)
            )
          refine bodyPost_ret (results_cell_row (by rfl) _ _ (N + 1) 135 (nums .u64 (w4 m)) (0, 0) _ (by rfl) (setRow_heap _ _ _ _ _ _ HA2.out) Tryd.underlying135 rfl HSM.out) rfl ⟨by rw [HR.out], ?_⟩
          rw [HN.out]
          exact Below.setRow HBE.out (by omega) _
        · have hc1 : ¬ (c : Int) = 0 := by omega
          obtain ⟨gk', rfl⟩ : ∃ g, gk = g + 1 := by
            cases gk with
            | zero => exact absurd (fb_zero _ HFB.out) hc0
            | succ g => exact ⟨g, rfl⟩
          have HC39 := Lib.hid (fb_small _ _ HFB.out)
          have HF1 := Lib.hid (fb_step _ _ HFB.out)
          have HF2 := Lib.hid (show fk gk' (f1 (m, c)) = fo lo hi from HFK.out)
          obtain ⟨y, hy⟩ : ∃ y, 38 * c = y := ⟨_, rfl⟩
          have i1 : IntKind.u64.wrap ((c : Int) * 38) = (y : Int) := by have := HC39.out; rw [IntKind.wrap_u64]; omega
          have hyl : y < 18446744073709551616 := by have := HC39.out; omega
          obtain ⟨r, hr⟩ : ∃ r, (f1 (m, c)).1 = r := ⟨_, rfl⟩
          obtain ⟨c', hc'⟩ : ∃ r, (f1 (m, c)).2 = r := ⟨_, rfl⟩
          have hf1 : f1 (m, c) = (r, c') := by rw [← hr, ← hc']
          rw [hf1] at HF1 HF2
          have hsum : m + y = r + 115792089237316195423570985008687907853269984665640564039457584007913129639936 * c' := by rw [← hr, ← hc', ← hy]; exact (Nat.mod_add_div _ _).symm
          have hrl : r < 115792089237316195423570985008687907853269984665640564039457584007913129639936 := by rw [← hr]; exact f1_lt _
          have hml := fb_lt _ _ HFB.out
          have HPL := Lib.hid (fun w => plusC_any m y r c' w hml (by omega) hrl hsum)
          rw [show w4 y = [y, 0, 0, 0] from w4_of y 0 0 0 y hyl (by decide) (by decide) (by decide) (by omega)] at HPL
          have HSR := Lib.hid (sC r)
          have HO := Lib.hid (show (nums .u64 (w4 m)).size = (nums .u64 (w4 r)).size by rw [size_nums, size_nums, w4_len, w4_len])
          clear hy hyl hr hc' hf1 hsum hrl hml
          go_wp2_with (first
            | (refine wpList_load_row rfl 135 _ rfl (N + 1 + 1) rfl 135 (nums .u64 (w4 m)) (0, 0) _ HA3.out Tryd.underlying135 rfl HSM.out ?_)
            | (refine wpList_build' rfl 135 _ rfl (nums .u64 [y, 0, 0, 0]) (by kernel_rfl) ?_))
          refine (HPL.out _).mono ?_
          rintro e w2 ⟨rfl, hb2⟩
          have HY2 := Lib.hid (HA2.out.ext hb2)
          have HY3 := Lib.hid (HA3.out.ext hb2)
          have HYB := Lib.hid (HBE.out.trans (hb2.mono (show N ≤ wr.heap.size by have := HA3.out.lt; omega)))
          clear hb2
          go_wp2_with (refine wpList_store_row rfl 135 _ _ rfl (N + 1 + 1) (nums .u64 (w4 r)) rfl rfl 135 _ HY3.out HSR.out HO.out (nums_one _ _) ?_)
          go_roundg gk'
          case measure => omega
          case rel => exact ⟨r, c', rfl, HF1.out, HF2.out, HY2.out.other (setRow_other _ _ _ _ (by omega)), setRow_heap _ _ _ _ _ _ HY3.out, Below.setRow HYB.out (by omega) _⟩
end Go.Proofs.YtlpchgoaoglhcaaDoor
namespace Go.Proofs.YtlpchgoaoglhcaaDoor
open Go.RowKit
set_option maxRecDepth 100000 in
set_option maxHeartbeats 1000000 in
theorem timesC_any (n m b : Nat) (w : World) (hn : n < 115792089237316195423570985008687907853269984665640564039457584007913129639936) (hm : m < 115792089237316195423570985008687907853269984665640564039457584007913129639936) (hb : RW w b .u64 135 (w4 n)) :
    Calls Tryd.prog 98 #[.pointer (some ⟨b, 0, none⟩), .agg (nums .u64 (w4 m))] w fun e w' => e = .returned (.tuple #[]) ∧ RW w' b .u64 135 (w4 (mu n m)) ∧ BelowX w.heap.size b w w' := by
  have HNL := Lib.hid hn
  have HML := Lib.hid hm
  have HB0 := Lib.hid hb
  have HBL := Lib.hid hb.lt
  have hz := z8
  clear hn hm hb
  go_enter Tryd.func98, Tryd.ntmps98
  go_upto_region 2 with fail
  generalize hW1 : World.alloc _ _ = W1
  obtain ⟨N, hN⟩ : ∃ n, w.heap.size = n := ⟨_, rfl⟩
  have HR1 := Lib.hid (show RW W1 N .u64 135 (w4 m) by subst hW1; rw [← hN]; exact (alloc2_at w _ _).1)
  have HR2 := Lib.hid (show RW W1 (N + 1) .u64 53 (zer 8) by subst hW1; rw [← hN]; exact (alloc2_at w _ _).2)
  have HB1 := Lib.hid (show Below N w W1 by subst hW1; rw [← hN]; exact ((Below.refl _ w).alloc (Nat.le_refl _) _).alloc (by simp) _)
  have HN := Lib.hid hN
  rw [hN] at HBL
  have HRB := Lib.hid (show RW W1 b .u64 135 (w4 n) from HB0.out.other (HB1.out.block b HBL.out))
  rw [hN]
  have hbN := HBL.out
  clear hW1 hN hz HB0
  go_wp2_with fail
  go_loopw [11] (fun iv wr => ∃ (i : Nat) (p : List Nat), iv = .int .i64 i ∧ i ≤ 4 ∧ Pr p i (n % 18446744073709551616 ^ i * m) ∧ RW wr b .u64 135 (w4 n) ∧ RW wr N .u64 135 (w4 m) ∧ RW wr (N + 1) .u64 53 p ∧ Below N w wr) (fun i _ => 4 - (intOf i).toNat)
  case atStart => exact ⟨0, zer 8, rfl, Nat.zero_le _, by rw [Nat.pow_zero, Nat.mod_one, Nat.zero_mul]; exact pr0, HRB.out, HR1.out, HR2.out, HB1.out⟩
  case round =>
    obtain ⟨i, p, rfl, hi, hpr, hrb, hr1, hr2, hbel⟩ := hrel
    have HPR := Lib.hid hpr
    have HAB := Lib.hid hrb
    have HA1 := Lib.hid hr1
    have HA2 := Lib.hid hr2
    have HBE := Lib.hid hbel
    clear hpr hrb hr1 hr2 hbel HRB HR1 HR2 HB1
    by_cases hlt : i < 4
    · have hlt' : (i : Int) < 4 := by omega
      have c1 := HAB.out.cell (i := i) (by rw [w4_len]; exact hlt)
      rw [w4_get n i hlt] at c1
      have HXL := Lib.hid (show wd n i < 18446744073709551616 from Nat.mod_lt _ (by decide))
      have HNX := Lib.hid (pr_next n m i)
      have HSM := Lib.hid (sC m)
      obtain ⟨x, hx⟩ : ∃ x, wd n i = x := ⟨_, rfl⟩
      rw [hx] at c1 HXL HNX
      clear hx
      go_wp2_with fail
      go_quiet (fail)
      generalize hwq : World.drewN _ _ = wq
      have HQB := Lib.hid (show RW wq b .u64 135 (w4 n) by subst hwq; exact HAB.out)
      have HQ1 := Lib.hid (show RW wq N .u64 135 (w4 m) by subst hwq; exact HA1.out)
      have HQ2 := Lib.hid (show RW wq (N + 1) .u64 53 p by subst hwq; exact HA2.out)
      have HQE := Lib.hid (show Below N w wq by subst hwq; exact ⟨HBE.out.os, HBE.out.tape, HBE.out.output, HBE.out.size, HBE.out.block⟩)
      clear hwq HAB HA1 HA2 HBE c1
      go_wp2_with (refine wpList_load_row rfl 135 _ rfl N rfl 135 (nums .u64 (w4 m)) (0, 0) _ HQ1.out Tryd.underlying135 rfl HSM.out ?_)
      go_loopw [7, 18] (fun ov jv wr => ∃ (j c : Nat) (p : List Nat), jv = .int .i64 j ∧ ov = .int .u64 c ∧ j ≤ 4 ∧ Pj p i j c (n % 18446744073709551616 ^ i * m + 18446744073709551616 ^ i * (x * (m % 18446744073709551616 ^ j))) ∧ RW wr b .u64 135 (w4 n) ∧ RW wr N .u64 135 (w4 m) ∧ RW wr (N + 1) .u64 53 p ∧ Below N w wr) (fun _ j _ => 4 - (intOf j).toNat)
      case atStart => exact ⟨0, 0, p, rfl, rfl, Nat.zero_le _, by rw [Nat.pow_zero, Nat.mod_one, Nat.mul_zero, Nat.mul_zero, Nat.add_zero]; exact Pj.start HPR.out i rfl, HQB.out, HQ1.out, HQ2.out, HQE.out⟩
      case round =>
        obtain ⟨j, c, p', rfl, rfl, hj, hpj, hrb, hr1, hr2, hbel⟩ := hrel
        have HPJ := Lib.hid hpj
        have HAB := Lib.hid hrb
        have HA1 := Lib.hid hr1
        have HA2 := Lib.hid hr2
        have HBE := Lib.hid hbel
        clear hpj hrb hr1 hr2 hbel HQB HQ1 HQ2 HQE
        by_cases hlt2 : j < 4
        · have hlt2' : (j : Int) < 4 := by omega
          have i1 : IntKind.i64.wrap ((i : Int) + (j : Int)) = (i : Int) + (j : Int) := by rw [IntKind.wrap_i64]; omega
          have i2 : (0 : Int) ≤ (i : Int) + (j : Int) := by omega
          have i3 : (i : Int) + (j : Int) < 8 := by omega
          have i4 : ((i : Int) + (j : Int)).toNat = i + j := by omega
          have HIX := Lib.hid (fun w => index_arr (P := Tryd.prog) w 135 52 4 (nums .u64 (w4 m)) .i64 j (.int .u64 ((wd m j : Nat) : Int)) Tryd.underlying135 (by kernel_rfl) (by kernel_rfl) hlt2 (by
            have := w4_get m j hlt2
            rw [← this]
            simp [nums, List.getElem?_eq_getElem (show j < (w4 m).length by rw [w4_len]; exact hlt2)]))
          have hyl : wd m j < 18446744073709551616 := Nat.mod_lt _ (by decide)
          have HNY := Lib.hid (pj_next x m j (18446744073709551616 ^ i) (n % 18446744073709551616 ^ i * m))
          obtain ⟨y, hy⟩ : ∃ y, wd m j = y := ⟨_, rfl⟩
          rw [hy] at HIX hyl HNY
          have hol := HPJ.out.lt (i + j)
          have hcl := HPJ.out.over
          have c2 := HA2.out.cell (i := i + j) (by rw [HPJ.out.len]; omega)
          have f2 := HA2.out.frozen (i + j)
          obtain ⟨o, ho⟩ : ∃ o, p'.getD (i + j) 0 = o := ⟨_, rfl⟩
          rw [ho] at c2 hol
          obtain ⟨l, hl⟩ : ∃ z, (x * y + o + c) % 18446744073709551616 = z := ⟨_, rfl⟩
          obtain ⟨h, hh⟩ : ∃ z, (x * y + o + c) / 18446744073709551616 = z := ⟨_, rfl⟩
          have he : x * y + o + c = l + 18446744073709551616 * h := by rw [← hl, ← hh, Nat.mod_add_div]
          have hll : l < 18446744073709551616 := by rw [← hl]; exact Nat.mod_lt _ (by decide)
          have hhl : h < 18446744073709551616 := by
            have := mul_lt64 HXL.out hyl
            omega
          have HST := Lib.hid (HPJ.out.step hlt hlt2 hll hhl (by rw [ho]; exact he))
          rw [Nat.pow_add, HNY.out] at HST
          have HME := Lib.hid (fun w => mulAdd_any x y o c l h w HXL.out hyl hol hcl hll he)
          have hix := HIX.out
          clear hy hyl hol hcl ho hl hh he hll hhl HIX HNY
          go_wp2_with fail
          refine (HME.out _).mono ?_
          rintro e w2 ⟨rfl, hw2⟩
          rw [hw2]
          go_wp2_with fail
          go_roundw
          case rel => exact ⟨j + 1, h, _, rfl, rfl, hlt2, HST.out, HAB.out.other (setCell_other _ (by omega)), HA1.out.other (setCell_other _ (by omega)), HA2.out.set l, HBE.out.setCell (p := ⟨N + 1, i + j, none⟩) (by show N ≤ N + 1; omega) _⟩
          case measure => simp [intOf]; omega
        · have hlt2' : ¬ (j : Int) < 4 := by omega
          obtain rfl : j = 4 := by omega
          have i1 : IntKind.i64.wrap ((i : Int) + 4) = (i : Int) + 4 := by rw [IntKind.wrap_i64]; omega
          have i2 : (0 : Int) ≤ (i : Int) + 4 := by omega
          have i3 : (i : Int) + 4 < 8 := by omega
          have i4 : ((i : Int) + 4).toNat = i + 4 := by omega
          have HPN := Lib.hid (show Pr (p'.set (i + 4) c) (i + 1) (n % 18446744073709551616 ^ (i + 1) * m) by
            rw [← HNX.out]
            have := HPJ.out.done hlt
            rw [show m % 18446744073709551616 ^ 4 = m from Nat.mod_eq_of_lt HML.out] at this
            exact this)
          have c2 := HA2.out.cell (i := i + 4) (by rw [HPJ.out.len]; omega)
          have f2 := HA2.out.frozen (i + 4)
          generalize p'.getD (i + 4) 0 = o at c2
          go_wp2_with fail
          go_roundw
          case rel => exact ⟨i + 1, _, rfl, hlt, HPN.out, HAB.out.other (setCell_other _ (by omega)), HA1.out.other (setCell_other _ (by omega)), HA2.out.set c, HBE.out.setCell (p := ⟨N + 1, i + 4, none⟩) (by show N ≤ N + 1; omega) _⟩
          case measure => simp [intOf]; omega
    · have hlt' : ¬ (i : Int) < 4 := by omega
      obtain rfl : i = 4 := by omega
      have HV := Lib.hid (show p = w4 (n * m % 115792089237316195423570985008687907853269984665640564039457584007913129639936) ++ w4 (n * m / 115792089237316195423570985008687907853269984665640564039457584007913129639936) by
        have h := w8_nv p HPR.out.len HPR.out.lt
        rw [HPR.out.val, show n % 18446744073709551616 ^ 4 = n from Nat.mod_eq_of_lt HNL.out] at h
        exact h)
      have HFO := Lib.hid (fun w => foldC_any (n * m % 115792089237316195423570985008687907853269984665640564039457584007913129639936) (n * m / 115792089237316195423570985008687907853269984665640564039457584007913129639936) w (Nat.mod_lt _ (by decide)) ((Nat.div_lt_iff_lt_mul (by decide)).2 (Nat.mul_lt_mul'' HNL.out HML.out)))
      rw [show fo (n * m % 115792089237316195423570985008687907853269984665640564039457584007913129639936) (n * m / 115792089237316195423570985008687907853269984665640564039457584007913129639936) = mu n m from rfl, ← HV.out] at HFO
      have HS8 := Lib.hid (s8 p HPR.out.len)
      have HSU := Lib.hid (sC (mu n m))
      have HO := Lib.hid (show (nums .u64 (w4 n)).size = (nums .u64 (w4 (mu n m))).size by rw [size_nums, size_nums, w4_len, w4_len])
      obtain ⟨u, hu⟩ : ∃ u, mu n m = u := ⟨_, rfl⟩
      rw [hu] at HFO HSU HO
      have HU := Lib.hid hu
      clear hu HV HPR
      go_wp2_with (refine wpList_load_row rfl 53 _ rfl (N + 1) rfl 53 (nums .u64 p) (0, 0) _ HA2.out Tryd.underlying53 rfl HS8.out ?_)
      refine (HFO.out _).mono ?_
      rintro e w2 ⟨rfl, hb2⟩
      have HYB := Lib.hid (HAB.out.ext hb2)
      have HYE := Lib.hid (HBE.out.trans (hb2.mono (show N ≤ wr.heap.size by have := HA2.out.lt; omega)))
      clear hb2
      go_wp2_with (refine wpList_store_row rfl 135 _ _ rfl b (nums .u64 (w4 u)) rfl rfl 135 _ HYB.out HSU.out HO.out (nums_one _ _) (Stop.out ?_))
      generalize hWS : World.setRow _ _ _ = ws
      have H1 : RW ws b .u64 135 (w4 (mu n m)) := by rw [HU.out]; subst hWS; exact setRow_heap _ _ _ _ _ _ HYB.out
      have H2 : BelowX w.heap.size b w ws := by
        subst hWS
        rw [HN.out]
        exact ⟨HYE.out.os, HYE.out.tape, HYE.out.output, by rw [setRow_size]; exact HYE.out.size, fun k hk hkb => by rw [setRow_other _ _ _ _ hkb]; exact HYE.out.block k hk⟩
      have HH := Lib.hid (And.intro H1 H2)
      clear hWS H1 H2
      refine ⟨?_⟩
      go_wp2
      exact ⟨rfl, _, results_none rfl _ _ _, rfl, HH.out⟩
set_option maxRecDepth 100000 in
set_option maxHeartbeats 1000000 in
theorem squareC_any (n b : Nat) (w : World) (hn : n < 115792089237316195423570985008687907853269984665640564039457584007913129639936) (hb : RW w b .u64 135 (w4 n)) :
    Calls Tryd.prog 110 #[.pointer (some ⟨b, 0, none⟩)] w fun e w' => e = .returned (.tuple #[]) ∧ RW w' b .u64 135 (w4 (mu n n)) ∧ BelowX w.heap.size b w w' := by
  have HSN := Lib.hid (sC n)
  have HB := Lib.hid hb
  have HT := Lib.hid (timesC_any n n b w hn hn hb)
  clear hn hb
  go_enter Tryd.func110, Tryd.ntmps110
  go_wp2_with (refine wpList_load_row rfl 135 _ rfl b rfl 135 (nums .u64 (w4 n)) (0, 0) _ HB.out Tryd.underlying135 rfl HSN.out ?_)
  refine (HT.out).mono ?_
  rintro e w2 ⟨rfl, h1, h2⟩
  have HH := Lib.hid (And.intro h1 h2)
  clear h1 h2
  go_wp2
  exact ⟨rfl, _, results_none rfl _ _ _, rfl, HH.out⟩
end Go.Proofs.YtlpchgoaoglhcaaDoor
namespace Go.Proofs.YtlpchgoaoglhcaaDoor
open Go.RowKit
theorem part_1 (e : TypeId) (cs : Array Value) (i : Nat) (v : Value) (w : World) (ha : (isAgg e).run Tryd.prog w = .ok false w) (hv : cs[i * 1]? = some v) : (part e cs (i * 1)).run Tryd.prog w = .ok v w := by
  simp only [part, Sem.run_bind, ha, Result.andThen_ok, Bool.false_eq_true, if_false, hv]
  rfl
/-- Two rows of numbers, element by element. -/
theorem eqItems_row (w : World) (d : Nat) (e : TypeId) (k : IntKind) (hu : Tryd.prog.underlying e = some (.int k)) (ha : (isAgg e).run Tryd.prog w = .ok false w) (f g : Nat → Int) (xs ys : Array Value) : ∀ (is : List Nat), (∀ i ∈ is, xs[i * 1]? = some (.int k (f i)) ∧ ys[i * 1]? = some (.int k (g i))) →
    (Op.eqItems (d + 1) e 1 xs ys is).run Tryd.prog w = .ok (is.all fun i => f i == g i) w
  | [], _ => by simp [Op.eqItems]
  | i :: is, h => by
    obtain ⟨h1, h2⟩ := h i (by simp)
    simp only [Op.eqItems, Sem.run_bind, part_1 e xs i _ w ha h1, part_1 e ys i _ w ha h2, Result.andThen_ok, run_equalIn_int w d e k k _ _ hu]
    cases hb : (f i == g i) with
    | true =>
      simp only [Bool.not_true, Bool.false_eq_true, if_false, List.all_cons, hb, Bool.true_and]
      exact eqItems_row w d e k hu ha f g xs ys is (fun j hj => h j (by simp [hj]))
    | false => simp [hb]
theorem u64_u (w : World) : (isAgg 52).run Tryd.prog w = .ok false w := by kernel_rfl
theorem u8_u (w : World) : (isAgg 5).run Tryd.prog w = .ok false w := by kernel_rfl
theorem info_of (t : TypeId) (h : (Tryd.prog.info? t).isSome = true) : ∃ i, Tryd.prog.info? t = some i := Option.isSome_iff_exists.1 h
theorem nums_get (k : IntKind) (l : List Nat) (i : Nat) (h : i < l.length) : (nums k l)[i]? = some (.int k ((l.getD i 0 : Nat) : Int)) := by
  simp [nums, List.getElem?_eq_getElem h, List.getD_eq_getElem?_getD]
theorem byteVals_get (l : List UInt8) (i : Nat) (h : i < l.length) : (byteVals l).toArray[i]? = some (.int .u8 ((l.getD i 0).toNat : Int)) := by
  simp [byteVals, List.getElem?_eq_getElem h, List.getD_eq_getElem?_getD]
set_option maxRecDepth 100000 in
/-- Two numbers of four words. -/
theorem eqW (t : TypeId) (hu : Tryd.prog.underlying t = some (.array 4 52)) (a b : Nat) (ha : a < 115792089237316195423570985008687907853269984665640564039457584007913129639936) (hb : b < 115792089237316195423570985008687907853269984665640564039457584007913129639936) (w : World) :
    (Op.equalIn 10000 t (.agg (nums .u64 (w4 a))) (.agg (nums .u64 (w4 b)))).run Tryd.prog w = .ok (decide (a = b)) w := by
  obtain ⟨i0, hi⟩ := info_of 52 (by kernel_rfl)
  rw [run_equalIn_array w 9999 _ _ hu hi, show Tryd.prog.cellsOf 52 = 1 by kernel_rfl]
  rw [eqItems_row w 9998 52 .u64 Tryd.underlying52 (u64_u w) (fun i => (((w4 a).getD i 0 : Nat) : Int)) (fun i => (((w4 b).getD i 0 : Nat) : Int)) _ _ _ (fun i hi => by
    have h4 : i < 4 := by simpa using hi
    rw [Nat.mul_one]
    exact ⟨nums_get .u64 _ i (by rw [w4_len]; exact h4), nums_get .u64 _ i (by rw [w4_len]; exact h4)⟩)]
  congr 1
  rw [Bool.eq_iff_iff, decide_eq_true_eq, List.all_eq_true]
  constructor
  · intro h
    refine w4_inj ha hb ?_
    apply List.ext_getElem?
    intro i
    by_cases h4 : i < 4
    · have := h i (by simpa using h4)
      have h5 : (w4 a).getD i 0 = (w4 b).getD i 0 := Int.ofNat.inj (beq_iff_eq.1 this)
      rw [List.getD_eq_getElem?_getD, List.getD_eq_getElem?_getD] at h5
      rw [List.getElem?_eq_getElem (by rw [w4_len]; exact h4), List.getElem?_eq_getElem (by rw [w4_len]; exact h4)] at h5 ⊢
      simpa using h5
    · rw [List.getElem?_eq_none (by rw [w4_len]; omega), List.getElem?_eq_none (by rw [w4_len]; omega)]
  · rintro rfl i _
    simp
set_option maxRecDepth 100000 in
/-- Two rows of bytes of one length. -/
theorem eqB (t : TypeId) (n : Nat) (hu : Tryd.prog.underlying t = some (.array n 5)) (l m : List UInt8) (hl : l.length = n) (hm : m.length = n) (w : World) :
    (Op.equalIn 10000 t (.agg (byteVals l).toArray) (.agg (byteVals m).toArray)).run Tryd.prog w = .ok (decide (l = m)) w := by
  obtain ⟨i0, hi⟩ := info_of 5 (by kernel_rfl)
  rw [run_equalIn_array w 9999 _ _ hu hi, show Tryd.prog.cellsOf 5 = 1 by kernel_rfl]
  rw [eqItems_row w 9998 5 .u8 Tryd.underlying5 (u8_u w) (fun i => ((l.getD i 0).toNat : Int)) (fun i => ((m.getD i 0).toNat : Int)) _ _ _ (fun i hi => by
    have h4 : i < n := by simpa using hi
    rw [Nat.mul_one]
    exact ⟨byteVals_get l i (by rw [hl]; exact h4), byteVals_get m i (by rw [hm]; exact h4)⟩)]
  congr 1
  rw [Bool.eq_iff_iff, decide_eq_true_eq, List.all_eq_true]
  constructor
  · intro h
    apply List.ext_getElem?
    intro i
    by_cases h4 : i < n
    · have := h i (by simpa using h4)
      have h5 : (l.getD i 0).toNat = (m.getD i 0).toNat := Int.ofNat.inj (beq_iff_eq.1 this)
      have h6 := UInt8.toNat_inj.1 h5
      rw [List.getD_eq_getElem?_getD, List.getD_eq_getElem?_getD] at h6
      rw [List.getElem?_eq_getElem (by rw [hl]; exact h4), List.getElem?_eq_getElem (by rw [hm]; exact h4)] at h6 ⊢
      simpa using h6
    · rw [List.getElem?_eq_none (by rw [hl]; omega), List.getElem?_eq_none (by rw [hm]; omega)]
  · rintro rfl i _
    simp
end Go.Proofs.YtlpchgoaoglhcaaDoor
namespace Go.Proofs.YtlpchgoaoglhcaaDoor
open Go.RowKit
/-- A power, bit by bit from the highest on. -/
def pst (b e : Nat) : Nat → Nat → Nat
  | 0, acc => acc
  | i + 1, acc => pst b e i (if e / 2 ^ i % 2 = 1 then mu (mu acc acc) b else mu acc acc)
def pw (b e : Nat) : Nat := pst b e 256 1
theorem pst_lt (b e : Nat) : ∀ i acc, acc < 115792089237316195423570985008687907853269984665640564039457584007913129639936 → pst b e i acc < 115792089237316195423570985008687907853269984665640564039457584007913129639936
  | 0, _, h => h
  | i + 1, acc, _ => by
    rw [pst]
    refine pst_lt b e i _ ?_
    split <;> exact mu_lt _ _
theorem pw_lt (b e : Nat) : pw b e < 115792089237316195423570985008687907853269984665640564039457584007913129639936 := pst_lt b e 256 1 (by decide)
theorem mul_mod_congr {a b c d p : Nat} (h1 : a % p = c % p) (h2 : b % p = d % p) : a * b % p = c * d % p := by rw [Nat.mul_mod, h1, h2, ← Nat.mul_mod]
theorem pst_mod (b e : Nat) (hb : b < 115792089237316195423570985008687907853269984665640564039457584007913129639936) : ∀ i acc, acc < 115792089237316195423570985008687907853269984665640564039457584007913129639936 → pst b e i acc % 57896044618658097711785492504343953926634992332820282019728792003956564819949 = acc ^ (2 ^ i) * b ^ (e % 2 ^ i) % 57896044618658097711785492504343953926634992332820282019728792003956564819949
  | 0, acc, _ => by rw [pst, Nat.pow_zero, Nat.pow_one, Nat.mod_one, Nat.pow_zero, Nat.mul_one]
  | i + 1, acc, h => by
    have hsq := mu_lt acc acc
    have e1 : e % 2 ^ (i + 1) = e % 2 ^ i + 2 ^ i * (e / 2 ^ i % 2) := by rw [Nat.pow_succ, Nat.mod_mul]
    have e2 : mu acc acc % 57896044618658097711785492504343953926634992332820282019728792003956564819949 = acc ^ 2 % 57896044618658097711785492504343953926634992332820282019728792003956564819949 := by rw [mu_mod acc acc h h, Nat.pow_succ, Nat.pow_one]
    rw [pst, e1]
    by_cases hbit : e / 2 ^ i % 2 = 1
    · rw [if_pos hbit, pst_mod b e hb i _ (mu_lt _ _), hbit, Nat.mul_one]
      have e3 : mu (mu acc acc) b % 57896044618658097711785492504343953926634992332820282019728792003956564819949 = acc ^ 2 * b % 57896044618658097711785492504343953926634992332820282019728792003956564819949 := by rw [mu_mod _ _ hsq hb]; exact mul_mod_congr e2 rfl
      have e4 : (mu (mu acc acc) b) ^ 2 ^ i % 57896044618658097711785492504343953926634992332820282019728792003956564819949 = (acc ^ 2 * b) ^ 2 ^ i % 57896044618658097711785492504343953926634992332820282019728792003956564819949 := by rw [Nat.pow_mod, e3, ← Nat.pow_mod]
      rw [mul_mod_congr e4 rfl, Nat.mul_pow, ← Nat.pow_mul, Nat.mul_assoc, ← Nat.pow_add, Nat.pow_succ, Nat.mul_comm 2 (2 ^ i), Nat.add_comm (2 ^ i)]
    · rw [if_neg hbit, pst_mod b e hb i _ hsq, show e / 2 ^ i % 2 = 0 by omega]
      simp only [Nat.mul_zero, Nat.add_zero]
      have e4 : (mu acc acc) ^ 2 ^ i % 57896044618658097711785492504343953926634992332820282019728792003956564819949 = (acc ^ 2) ^ 2 ^ i % 57896044618658097711785492504343953926634992332820282019728792003956564819949 := by rw [Nat.pow_mod, e2, ← Nat.pow_mod]
      rw [mul_mod_congr e4 rfl, ← Nat.pow_mul, Nat.pow_succ, Nat.mul_comm 2 (2 ^ i)]
theorem pw_mod (b e : Nat) (hb : b < 115792089237316195423570985008687907853269984665640564039457584007913129639936) (he : e < 115792089237316195423570985008687907853269984665640564039457584007913129639936) : pw b e % 57896044618658097711785492504343953926634992332820282019728792003956564819949 = b ^ e % 57896044618658097711785492504343953926634992332820282019728792003956564819949 := by
  unfold pw
  have h256 : (2 : Nat) ^ 256 = 115792089237316195423570985008687907853269984665640564039457584007913129639936 := by decide
  have h := pst_mod b e hb 256 1 (by decide)
  rw [h256, Nat.mod_eq_of_lt he] at h
  generalize (115792089237316195423570985008687907853269984665640564039457584007913129639936 : Nat) = Z at h
  rw [h, Nat.one_pow, Nat.one_mul]
theorem RW.belowX {w w' : World} {b c : Nat} {k : IntKind} {t : TypeId} {l : List Nat} (h : RW w b k t l) (hb : BelowX w.heap.size c w w') (hc : b ≠ c) : RW w' b k t l := h.other (hb.block b h.lt hc)
theorem below_x {N b : Nat} {u v w : World} (h : Below N u v) (hb : BelowX v.heap.size b v w) (hN : N ≤ b) (hv : N ≤ v.heap.size) : Below N u w :=
  ⟨hb.os.trans h.os, hb.tape.trans h.tape, hb.output.trans h.output, Nat.le_trans h.size hb.size, fun k hk => (hb.block k (by omega) (by omega)).trans (h.block k hk)⟩
set_option maxRecDepth 100000 in
set_option maxHeartbeats 1000000 in
theorem powerC_any (a e : Nat) (w : World) (ha : a < 115792089237316195423570985008687907853269984665640564039457584007913129639936) :
    Calls Tryd.prog 106 #[.agg (nums .u64 (w4 a)), .agg (nums .u64 (w4 e))] w fun r w' => r = .returned (.agg (nums .u64 (w4 (pw a e)))) ∧ Below w.heap.size w w' := by
  have HAL := Lib.hid ha
  have HSA := Lib.hid (sC a)
  have HSE := Lib.hid (sC e)
  have HS1 := Lib.hid (sC 1)
  have hz := zC
  clear ha
  go_enter Tryd.func106, Tryd.ntmps106
  go_upto_region 1 with fail
  generalize hW1 : World.alloc _ _ = W1
  obtain ⟨N, hN⟩ : ∃ n, w.heap.size = n := ⟨_, rfl⟩
  have HR1 := Lib.hid (show RW W1 N .u64 135 (w4 a) by subst hW1; rw [← hN]; exact (alloc3_at w _ _ _).1)
  have HR2 := Lib.hid (show RW W1 (N + 1) .u64 135 (w4 e) by subst hW1; rw [← hN]; exact (alloc3_at w _ _ _).2.1)
  have HR3 := Lib.hid (show RW W1 (N + 1 + 1) .u64 135 (zer 4) by subst hW1; rw [← hN]; exact (alloc3_at w _ _ _).2.2)
  have HB1 := Lib.hid (show Below N w W1 by subst hW1; rw [← hN]; exact Below.alloc3 w _ _ _)
  have HNW := Lib.hid (show W1.heap.size = N + 1 + 1 + 1 by subst hW1; rw [← hN]; simp)
  have HN := Lib.hid hN
  rw [hN]
  clear hW1 hN
  go_wp2_with (first
    | (refine wpList_build' rfl 135 _ rfl (nums .u64 (w4 1)) (by kernel_rfl) ?_)
    | (refine wpList_store_row rfl 135 _ _ rfl W1.heap.size (nums .u64 (w4 1)) rfl rfl 135 _ (Go.heap_alloc_new _ _) HS1.out ?hold (nums_one _ _) (Stop.out ?_)))
  case hold => rw [size_nums, size_nums, zer_len, w4_len]
  generalize hWS : World.setRow _ _ _ = ws
  have HD := Lib.hid (show RW ws (N + 1 + 1 + 1) .u64 135 (w4 1) by subst hWS; rw [← HNW.out]; exact setRow_heap _ _ _ _ _ _ (Go.heap_alloc_new _ _))
  have HD1 := Lib.hid (show RW ws N .u64 135 (w4 a) by subst hWS; exact HR1.out.other ((setRow_other _ _ _ _ (by have := HNW.out; omega)).trans (Go.heap_alloc_old _ _ HR1.out.lt)))
  have HD2 := Lib.hid (show RW ws (N + 1) .u64 135 (w4 e) by subst hWS; exact HR2.out.other ((setRow_other _ _ _ _ (by have := HNW.out; omega)).trans (Go.heap_alloc_old _ _ HR2.out.lt)))
  have HD3 := Lib.hid (show RW ws (N + 1 + 1) .u64 135 (zer 4) by subst hWS; exact HR3.out.other ((setRow_other _ _ _ _ (by have := HNW.out; omega)).trans (Go.heap_alloc_old _ _ HR3.out.lt)))
  have HDB := Lib.hid (show Below N w ws by subst hWS; exact Below.setRow (HB1.out.alloc (by have := HNW.out; omega) _) (by have := HNW.out; omega) _)
  rw [HNW.out]
  clear hWS HR1 HR2 HR3 HB1 hz
  refine ⟨?_⟩
  go_wp2_with fail
  go_loopw [8] (fun iv wr => ∃ (k acc : Nat), iv = .int .i64 ((k : Int) - 1) ∧ k ≤ 256 ∧ acc < 115792089237316195423570985008687907853269984665640564039457584007913129639936 ∧ Hid (pst a e k acc = pw a e) ∧ RW wr N .u64 135 (w4 a) ∧ RW wr (N + 1) .u64 135 (w4 e) ∧ RW wr (N + 1 + 1) .u64 135 (zer 4) ∧ RW wr (N + 1 + 1 + 1) .u64 135 (w4 acc) ∧ Below N w wr) (fun i _ => (intOf i + 1).toNat)
  case atStart => exact ⟨256, 1, rfl, Nat.le_refl _, by decide, Lib.hid rfl, HD1.out, HD2.out, HD3.out, HD.out, HDB.out⟩
  case round =>
    obtain ⟨k, acc, rfl, hk, hacc, HP, h1, h2, h3, h4, hbel⟩ := hrel
    have HA1 := Lib.hid h1
    have HA2 := Lib.hid h2
    have HA3 := Lib.hid h3
    have HA4 := Lib.hid h4
    have HBE := Lib.hid hbel
    have HACC := Lib.hid hacc
    clear h1 h2 h3 h4 hbel hacc HD HD1 HD2 HD3 HDB
    cases k with
    | zero =>
      have HRES := Lib.hid (show acc = pw a e from HP.out)
      have HSC := Lib.hid (sC acc)
      have HO := Lib.hid (show (nums .u64 (zer 4)).size = (nums .u64 (w4 acc)).size by rw [size_nums, size_nums, zer_len, w4_len])
      go_wp2_with (first
        | (refine wpList_load_row rfl 135 _ rfl (N + 1 + 1 + 1) rfl 135 (nums .u64 (w4 acc)) (0, 0) _ HA4.out Tryd.underlying135 rfl HSC.out ?_)
        | (refine wpList_store_row rfl 135 _ _ rfl (N + 1 + 1) (nums .u64 (w4 acc)) rfl rfl 135 _ HA3.out HSC.out HO.out (nums_one _ _) ?_)
        )
      refine bodyPost_ret (results_cell_row (by rfl) _ _ (N + 1 + 1) 135 (nums .u64 (w4 acc)) (0, 0) _ (by rfl) (setRow_heap _ _ _ _ _ _ HA3.out) Tryd.underlying135 rfl HSC.out) rfl ⟨by rw [HRES.out], ?_⟩
      rw [HN.out]
      exact Below.setRow HBE.out (by omega) _
    | succ k =>
      have i0 : ((k + 1 : Nat) : Int) - 1 = (k : Int) := by omega
      rw [i0]
      have HSQ := Lib.hid (squareC_any acc (N + 1 + 1 + 1) wr HACC.out HA4.out)
      go_wp2_with fail
      refine (HSQ.out).mono ?_
      rintro e2 w2 ⟨rfl, hq4, hqx⟩
      have HC1 := Lib.hid (HA1.out.belowX hqx (by omega))
      have HC2 := Lib.hid (HA2.out.belowX hqx (by omega))
      have HC3 := Lib.hid (HA3.out.belowX hqx (by omega))
      have HC4 := Lib.hid hq4
      have HCB := Lib.hid (below_x HBE.out hqx (by omega) (by have := HA4.out.lt; omega))
      have HSQL := Lib.hid (mu_lt acc acc)
      obtain ⟨s, hs⟩ : ∃ s, mu acc acc = s := ⟨_, rfl⟩
      rw [hs] at HC4 HSQL
      have HP2 := Lib.hid (show pst a e k (if e / 2 ^ k % 2 = 1 then mu s a else s) = pw a e by have := HP.out; rw [pst, hs] at this; exact this)
      have HBT := Lib.hid (fun w => bitC_any e k w (by omega))
      clear hq4 hqx hs HA1 HA2 HA3 HA4 HBE HSQ
      go_wp2_with (refine wpList_load_row rfl 135 _ rfl (N + 1) rfl 135 (nums .u64 (w4 e)) (0, 0) _ HC2.out Tryd.underlying135 rfl HSE.out ?_)
      refine (HBT.out _).mono ?_
      rintro e3 w3 ⟨rfl, hb3⟩
      have HD1 := Lib.hid (HC1.out.ext hb3)
      have HD2 := Lib.hid (HC2.out.ext hb3)
      have HD3 := Lib.hid (HC3.out.ext hb3)
      have HD4 := Lib.hid (HC4.out.ext hb3)
      have HDB := Lib.hid (HCB.out.trans (hb3.mono (show N ≤ w2.heap.size by have := HC4.out.lt; omega)))
      clear hb3 HC1 HC2 HC3 HC4 HCB
      by_cases hbit : e / 2 ^ k % 2 = 1
      · have hdec : decide (e / 2 ^ k % 2 = 1) = true := by simpa using hbit
        rw [if_pos hbit] at HP2
        have HTM := Lib.hid (fun w h => timesC_any s a (N + 1 + 1 + 1) w HSQL.out HAL.out h)
        rw [hdec]
        clear hdec hbit
        go_wp2_with (refine wpList_load_row rfl 135 _ rfl N rfl 135 (nums .u64 (w4 a)) (0, 0) _ HD1.out Tryd.underlying135 rfl HSA.out ?_)
        refine (HTM.out w3 HD4.out).mono ?_
        rintro e4 w4' ⟨rfl, hq4, hqx⟩
        have HE1 := Lib.hid (HD1.out.belowX hqx (by omega))
        have HE2 := Lib.hid (HD2.out.belowX hqx (by omega))
        have HE3 := Lib.hid (HD3.out.belowX hqx (by omega))
        have HE4 := Lib.hid hq4
        have HEB := Lib.hid (below_x HDB.out hqx (by omega) (by have := HD4.out.lt; omega))
        clear hq4 hqx HD1 HD2 HD3 HD4 HDB
        go_wp2_with fail
        go_roundw
        case rel => exact ⟨k, mu s a, rfl, by omega, mu_lt _ _, HP2, HE1.out, HE2.out, HE3.out, HE4.out, HEB.out⟩
        case measure => simp [intOf]
      · have hdec : decide (e / 2 ^ k % 2 = 1) = false := by simpa using hbit
        rw [if_neg hbit] at HP2
        rw [hdec]
        clear hdec hbit
        go_wp2_with fail
        go_roundw
        case rel => exact ⟨k, s, rfl, by omega, HSQL.out, HP2, HD1.out, HD2.out, HD3.out, HD4.out, HDB.out⟩
        case measure => simp [intOf]
end Go.Proofs.YtlpchgoaoglhcaaDoor
