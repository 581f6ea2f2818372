/-
  Products: times, square.
  Conditions: none.
-/
import Derived.Test.YtfmclkmmkceldaaFdH
namespace Go.Proofs.Ytfmclkmmkceldaa
open Go.RowKit

set_option maxRecDepth 100000 in
set_option maxHeartbeats 1000000 in
theorem timesC_any (n m b : Nat) (w : World) (hn : n < 115792089237316195423570985008687907853269984665640564039457584007913129639936) (hm : m < 115792089237316195423570985008687907853269984665640564039457584007913129639936) (hb : RW w b .u64 70 (w4 n)) :
    Calls Try.prog 72 #[.pointer (some ⟨b, 0, none⟩), .agg (nums .u64 (w4 m))] w fun e w' => e = .returned (.tuple #[]) ∧ RW w' b .u64 70 (w4 (mu n m)) ∧ BelowX w.heap.size b w w' := by
  have HNL := Lib.hid hn
  have HML := Lib.hid hm
  have HB0 := Lib.hid hb
  have HBL := Lib.hid hb.lt
  have hz := z8
  clear hn hm hb
  go_enter Try.func72, Try.ntmps72
  go_upto_region 2 with fail
  generalize hW1 : World.alloc _ _ = W1
  obtain ⟨N, hN⟩ : ∃ n, w.heap.size = n := ⟨_, rfl⟩
  have HR1 := Lib.hid (show RW W1 N .u64 70 (w4 m) by subst hW1; rw [← hN]; exact (alloc2_at w _ _).1)
  have HR2 := Lib.hid (show RW W1 (N + 1) .u64 104 (zer 8) by subst hW1; rw [← hN]; exact (alloc2_at w _ _).2)
  have HB1 := Lib.hid (show Below N w W1 by subst hW1; rw [← hN]; exact ((Below.refl _ w).alloc (Nat.le_refl _) _).alloc (by simp) _)
  have HN := Lib.hid hN
  rw [hN] at HBL
  have HRB := Lib.hid (show RW W1 b .u64 70 (w4 n) from HB0.out.other (HB1.out.block b HBL.out))
  rw [hN]
  have hbN := HBL.out
  clear hW1 hN hz HB0
  go_wp2_with fail
  go_loopw [11] (fun iv wr => ∃ (i : Nat) (p : List Nat), iv = .int .i64 i ∧ i ≤ 4 ∧ Pr p i (n % 18446744073709551616 ^ i * m) ∧ RW wr b .u64 70 (w4 n) ∧ RW wr N .u64 70 (w4 m) ∧ RW wr (N + 1) .u64 104 p ∧ Below N w wr) (fun i _ => 4 - (intOf i).toNat)
  case atStart => exact ⟨0, zer 8, rfl, Nat.zero_le _, by rw [Nat.pow_zero, Nat.mod_one, Nat.zero_mul]; exact pr0, HRB.out, HR1.out, HR2.out, HB1.out⟩
  case round =>
    obtain ⟨i, p, rfl, hi, hpr, hrb, hr1, hr2, hbel⟩ := hrel
    have HPR := Lib.hid hpr
    have HAB := Lib.hid hrb
    have HA1 := Lib.hid hr1
    have HA2 := Lib.hid hr2
    have HBE := Lib.hid hbel
    clear hpr hrb hr1 hr2 hbel HRB HR1 HR2 HB1
    by_cases hlt : i < 4
    · have hlt' : (i : Int) < 4 := by omega
      have c1 := HAB.out.cell (i := i) (by rw [w4_len]; exact hlt)
      rw [w4_get n i hlt] at c1
      have HXL := Lib.hid (show wd n i < 18446744073709551616 from Nat.mod_lt _ (by decide))
      have HNX := Lib.hid (pr_next n m i)
      have HSM := Lib.hid (sC m)
      obtain ⟨x, hx⟩ : ∃ x, wd n i = x := ⟨_, rfl⟩
      rw [hx] at c1 HXL HNX
      clear hx
      go_wp2_with fail
      go_quiet (fail)
      generalize hwq : World.drewN _ _ = wq
      have HQB := Lib.hid (show RW wq b .u64 70 (w4 n) by subst hwq; exact HAB.out)
      have HQ1 := Lib.hid (show RW wq N .u64 70 (w4 m) by subst hwq; exact HA1.out)
      have HQ2 := Lib.hid (show RW wq (N + 1) .u64 104 p by subst hwq; exact HA2.out)
      have HQE := Lib.hid (show Below N w wq by subst hwq; exact ⟨HBE.out.os, HBE.out.tape, HBE.out.output, HBE.out.size, HBE.out.block⟩)
      clear hwq HAB HA1 HA2 HBE c1
      go_wp2_with (refine wpList_load_row rfl 70 _ rfl N rfl 70 (nums .u64 (w4 m)) (0, 0) _ HQ1.out Try.underlying70 rfl HSM.out ?_)
      go_loopw [7, 18] (fun ov jv wr => ∃ (j c : Nat) (p : List Nat), jv = .int .i64 j ∧ ov = .int .u64 c ∧ j ≤ 4 ∧ Pj p i j c (n % 18446744073709551616 ^ i * m + 18446744073709551616 ^ i * (x * (m % 18446744073709551616 ^ j))) ∧ RW wr b .u64 70 (w4 n) ∧ RW wr N .u64 70 (w4 m) ∧ RW wr (N + 1) .u64 104 p ∧ Below N w wr) (fun _ j _ => 4 - (intOf j).toNat)
      case atStart => exact ⟨0, 0, p, rfl, rfl, Nat.zero_le _, by rw [Nat.pow_zero, Nat.mod_one, Nat.mul_zero, Nat.mul_zero, Nat.add_zero]; exact Pj.start HPR.out i rfl, HQB.out, HQ1.out, HQ2.out, HQE.out⟩
      case round =>
        obtain ⟨j, c, p', rfl, rfl, hj, hpj, hrb, hr1, hr2, hbel⟩ := hrel
        have HPJ := Lib.hid hpj
        have HAB := Lib.hid hrb
        have HA1 := Lib.hid hr1
        have HA2 := Lib.hid hr2
        have HBE := Lib.hid hbel
        clear hpj hrb hr1 hr2 hbel HQB HQ1 HQ2 HQE
        by_cases hlt2 : j < 4
        · have hlt2' : (j : Int) < 4 := by omega
          have i1 : IntKind.i64.wrap ((i : Int) + (j : Int)) = (i : Int) + (j : Int) := by rw [IntKind.wrap_i64]; omega
          have i2 : (0 : Int) ≤ (i : Int) + (j : Int) := by omega
          have i3 : (i : Int) + (j : Int) < 8 := by omega
          have i4 : ((i : Int) + (j : Int)).toNat = i + j := by omega
          have HIX := Lib.hid (fun w => index_arr (P := Try.prog) w 70 29 4 (nums .u64 (w4 m)) .i64 j (.int .u64 ((wd m j : Nat) : Int)) Try.underlying70 (by kernel_rfl) (by kernel_rfl) hlt2 (by
            have := w4_get m j hlt2
            rw [← this]
            simp [nums, List.getElem?_eq_getElem (show j < (w4 m).length by rw [w4_len]; exact hlt2)]))
          have hyl : wd m j < 18446744073709551616 := Nat.mod_lt _ (by decide)
          have HNY := Lib.hid (pj_next x m j (18446744073709551616 ^ i) (n % 18446744073709551616 ^ i * m))
          obtain ⟨y, hy⟩ : ∃ y, wd m j = y := ⟨_, rfl⟩
          rw [hy] at HIX hyl HNY
          have hol := HPJ.out.lt (i + j)
          have hcl := HPJ.out.over
          have c2 := HA2.out.cell (i := i + j) (by rw [HPJ.out.len]; omega)
          have f2 := HA2.out.frozen (i + j)
          obtain ⟨o, ho⟩ : ∃ o, p'.getD (i + j) 0 = o := ⟨_, rfl⟩
          rw [ho] at c2 hol
          obtain ⟨l, hl⟩ : ∃ z, (x * y + o + c) % 18446744073709551616 = z := ⟨_, rfl⟩
          obtain ⟨h, hh⟩ : ∃ z, (x * y + o + c) / 18446744073709551616 = z := ⟨_, rfl⟩
          have he : x * y + o + c = l + 18446744073709551616 * h := by rw [← hl, ← hh, Nat.mod_add_div]
          have hll : l < 18446744073709551616 := by rw [← hl]; exact Nat.mod_lt _ (by decide)
          have hhl : h < 18446744073709551616 := by
            have := mul_lt64 HXL.out hyl
            omega
          have HST := Lib.hid (HPJ.out.step hlt hlt2 hll hhl (by rw [ho]; exact he))
          rw [Nat.pow_add, HNY.out] at HST
          have HME := Lib.hid (fun w => mulAdd_any x y o c l h w HXL.out hyl hol hcl hll he)
          have hix := HIX.out
          clear hy hyl hol hcl ho hl hh he hll hhl HIX HNY
          go_wp2_with fail
          refine (HME.out _).mono ?_
          rintro e w2 ⟨rfl, hw2⟩
          rw [hw2]
          go_wp2_with fail
          go_roundw
          case rel => exact ⟨j + 1, h, _, rfl, rfl, hlt2, HST.out, HAB.out.other (setCell_other _ (by omega)), HA1.out.other (setCell_other _ (by omega)), HA2.out.set l, HBE.out.setCell (p := ⟨N + 1, i + j, none⟩) (by show N ≤ N + 1; omega) _⟩
          case measure => simp [intOf]; omega
        · have hlt2' : ¬ (j : Int) < 4 := by omega
          obtain rfl : j = 4 := by omega
          have i1 : IntKind.i64.wrap ((i : Int) + 4) = (i : Int) + 4 := by rw [IntKind.wrap_i64]; omega
          have i2 : (0 : Int) ≤ (i : Int) + 4 := by omega
          have i3 : (i : Int) + 4 < 8 := by omega
          have i4 : ((i : Int) + 4).toNat = i + 4 := by omega
          have HPN := Lib.hid (show Pr (p'.set (i + 4) c) (i + 1) (n % 18446744073709551616 ^ (i + 1) * m) by
            rw [← HNX.out]
            have := HPJ.out.done hlt
            rw [show m % 18446744073709551616 ^ 4 = m from Nat.mod_eq_of_lt HML.out] at this
            exact this)
          have c2 := HA2.out.cell (i := i + 4) (by rw [HPJ.out.len]; omega)
          have f2 := HA2.out.frozen (i + 4)
          generalize p'.getD (i + 4) 0 = o at c2
          go_wp2_with fail
          go_roundw
          case rel => exact ⟨i + 1, _, rfl, hlt, HPN.out, HAB.out.other (setCell_other _ (by omega)), HA1.out.other (setCell_other _ (by omega)), HA2.out.set c, HBE.out.setCell (p := ⟨N + 1, i + 4, none⟩) (by show N ≤ N + 1; omega) _⟩
          case measure => simp [intOf]; omega
    · have hlt' : ¬ (i : Int) < 4 := by omega
      obtain rfl : i = 4 := by omega
      have HV := Lib.hid (show p = w4 (n * m % 115792089237316195423570985008687907853269984665640564039457584007913129639936) ++ w4 (n * m / 115792089237316195423570985008687907853269984665640564039457584007913129639936) by
        have h := w8_nv p HPR.out.len HPR.out.lt
        rw [HPR.out.val, show n % 18446744073709551616 ^ 4 = n from Nat.mod_eq_of_lt HNL.out] at h
        exact h)
      have HFO := Lib.hid (fun w => foldC_any (n * m % 115792089237316195423570985008687907853269984665640564039457584007913129639936) (n * m / 115792089237316195423570985008687907853269984665640564039457584007913129639936) w (Nat.mod_lt _ (by decide)) ((Nat.div_lt_iff_lt_mul (by decide)).2 (Nat.mul_lt_mul'' HNL.out HML.out)))
      rw [show fo (n * m % 115792089237316195423570985008687907853269984665640564039457584007913129639936) (n * m / 115792089237316195423570985008687907853269984665640564039457584007913129639936) = mu n m from rfl, ← HV.out] at HFO
      have HS8 := Lib.hid (s8 p HPR.out.len)
      have HSU := Lib.hid (sC (mu n m))
      have HO := Lib.hid (show (nums .u64 (w4 n)).size = (nums .u64 (w4 (mu n m))).size by rw [size_nums, size_nums, w4_len, w4_len])
      obtain ⟨u, hu⟩ : ∃ u, mu n m = u := ⟨_, rfl⟩
      rw [hu] at HFO HSU HO
      have HU := Lib.hid hu
      clear hu HV HPR
      go_wp2_with (refine wpList_load_row rfl 104 _ rfl (N + 1) rfl 104 (nums .u64 p) (0, 0) _ HA2.out Try.underlying104 rfl HS8.out ?_)
      refine (HFO.out _).mono ?_
      rintro e w2 ⟨rfl, hb2⟩
      have HYB := Lib.hid (HAB.out.ext hb2)
      have HYE := Lib.hid (HBE.out.trans (hb2.mono (show N ≤ wr.heap.size by have := HA2.out.lt; omega)))
      clear hb2
      go_wp2_with (refine wpList_store_row rfl 70 _ _ rfl b (nums .u64 (w4 u)) rfl rfl 70 _ HYB.out HSU.out HO.out (nums_one _ _) (Stop.out ?_))
      generalize hWS : World.setRow _ _ _ = ws
      have H1 : RW ws b .u64 70 (w4 (mu n m)) := by rw [HU.out]; subst hWS; exact setRow_heap _ _ _ _ _ _ HYB.out
      have H2 : BelowX w.heap.size b w ws := by
        subst hWS
        rw [HN.out]
        exact ⟨HYE.out.os, HYE.out.tape, HYE.out.output, by rw [setRow_size]; exact HYE.out.size, fun k hk hkb => by rw [setRow_other _ _ _ _ hkb]; exact HYE.out.block k hk⟩
      have HH := Lib.hid (And.intro H1 H2)
      clear hWS H1 H2
      refine ⟨?_⟩
      go_wp2
      exact ⟨rfl, _, results_none rfl _ _ _, rfl, HH.out⟩
set_option maxRecDepth 100000 in
set_option maxHeartbeats 1000000 in
theorem squareC_any (n b : Nat) (w : World) (hn : n < 115792089237316195423570985008687907853269984665640564039457584007913129639936) (hb : RW w b .u64 70 (w4 n)) :
    Calls Try.prog 130 #[.pointer (some ⟨b, 0, none⟩)] w fun e w' => e = .returned (.tuple #[]) ∧ RW w' b .u64 70 (w4 (mu n n)) ∧ BelowX w.heap.size b w w' := by
  have HSN := Lib.hid (sC n)
  have HB := Lib.hid hb
  have HT := Lib.hid (timesC_any n n b w hn hn hb)
  clear hn hb
  go_enter Try.func130, Try.ntmps130
  go_wp2_with (refine wpList_load_row rfl 70 _ rfl b rfl 70 (nums .u64 (w4 n)) (0, 0) _ HB.out Try.underlying70 rfl HSN.out ?_)
  refine (HT.out).mono ?_
  rintro e w2 ⟨rfl, h1, h2⟩
  have HH := Lib.hid (And.intro h1 h2)
  clear h1 h2
  go_wp2
  exact ⟨rfl, _, results_none rfl _ _ _, rfl, HH.out⟩
end Go.Proofs.Ytfmclkmmkceldaa
