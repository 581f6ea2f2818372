/-
  The document's words: mul.
  Conditions: none.
-/
import Derived.Test.YtfmclkmmkceldaaFdRd
namespace Go.Proofs.Ytfmclkmmkceldaa
open Go.RowKit

set_option maxRecDepth 100000 in
set_option maxHeartbeats 1000000 in
theorem mulR_any (n m : Nat) (w : World) (hn : n < 115792089237316195423570985008687907853269984665640564039457584007913129639936) (hm : m < 115792089237316195423570985008687907853269984665640564039457584007913129639936) :
    Calls Try.prog 85 #[.agg (nums .u64 (w4 n)), .agg (nums .u64 (w4 m))] w fun e w' => e = .returned (.agg (nums .u64 (w4 (n * m % 57896044618658097711785492504343953926634992332820282019728792003956564819949)))) ∧ Below w.heap.size w w' := by
  have HSN := Lib.hid (sR n)
  have HSM := Lib.hid (sR m)
  have hz := zR
  have hz8 := z8
  have HQ := Lib.hid (fun w => wideR_any n m w hn hm)
  have HV := Lib.hid (mu_mod n m hn hm)
  have HLO := Lib.hid (show n * m % 115792089237316195423570985008687907853269984665640564039457584007913129639936 < 115792089237316195423570985008687907853269984665640564039457584007913129639936 from Nat.mod_lt _ (by decide))
  have HHI := Lib.hid (show n * m / 115792089237316195423570985008687907853269984665640564039457584007913129639936 < 115792089237316195423570985008687907853269984665640564039457584007913129639936 from (Nat.div_lt_iff_lt_mul (by decide)).2 (Nat.mul_lt_mul'' hn hm))
  unfold mu at HV
  obtain ⟨lo, hlo⟩ : ∃ s, n * m % 115792089237316195423570985008687907853269984665640564039457584007913129639936 = s := ⟨_, rfl⟩
  obtain ⟨hi, hhi⟩ : ∃ s, n * m / 115792089237316195423570985008687907853269984665640564039457584007913129639936 = s := ⟨_, rfl⟩
  obtain ⟨x, hx⟩ : ∃ x, n * m % 57896044618658097711785492504343953926634992332820282019728792003956564819949 = x := ⟨_, rfl⟩
  rw [hlo, hhi] at HQ HV
  rw [hlo] at HLO
  rw [hhi] at HHI
  rw [hx] at HV
  rw [hx]
  have HSX := Lib.hid (sR x)
  have HS8 := Lib.hid (s8 (w4 lo ++ w4 hi) (w8_len lo hi))
  have HO := Lib.hid (show (nums .u64 (zer 4)).size = (nums .u64 (w4 x)).size by rw [size_nums, size_nums, zer_len, w4_len])
  clear hn hm hlo hhi hx
  go_enter Try.func85, Try.ntmps85
  go_upto_region 1 with fail
  generalize hW1 : World.alloc _ _ = W1
  obtain ⟨N, hN⟩ : ∃ n, w.heap.size = n := ⟨_, rfl⟩
  have HR1 := Lib.hid (show RW W1 N .u64 86 (w4 n) by subst hW1; rw [← hN]; exact (alloc3_at w _ _ _).1)
  have HR2 := Lib.hid (show RW W1 (N + 1) .u64 86 (w4 m) by subst hW1; rw [← hN]; exact (alloc3_at w _ _ _).2.1)
  have HR3 := Lib.hid (show RW W1 (N + 1 + 1) .u64 86 (zer 4) by subst hW1; rw [← hN]; exact (alloc3_at w _ _ _).2.2)
  have HB1 := Lib.hid (show Below N w W1 by subst hW1; rw [← hN]; exact Below.alloc3 w _ _ _)
  have HN := Lib.hid hN
  rw [hN]
  clear hW1 hN
  go_wp2_with (first
    | (refine wpList_load_row rfl 86 _ rfl N rfl 86 (nums .u64 (w4 n)) (0, 0) _ HR1.out Try.underlying86 rfl HSN.out ?_)
    | (refine wpList_load_row rfl 86 _ rfl (N + 1) rfl 86 (nums .u64 (w4 m)) (0, 0) _ HR2.out Try.underlying86 rfl HSM.out ?_)
    )
  refine (HQ.out _).mono ?_
  rintro e w2 ⟨rfl, hb2⟩
  have HZ := Lib.hid (HR3.out.ext hb2)
  have HB2 := Lib.hid (HB1.out.trans (hb2.mono (show N ≤ _ by have := HR3.out.lt; omega)))
  clear hb2 HR1 HR2 HR3 HB1
  go_wp2_with (refine wpList_store_row rfl 104 _ _ rfl w2.heap.size (nums .u64 (w4 lo ++ w4 hi)) rfl rfl 104 _ (Go.heap_alloc_new _ _) HS8.out ?hold (nums_one _ _) (Stop.out ?_))
  case hold => rw [size_nums, size_nums, zer_len, w8_len]
  generalize hWS : World.setRow _ _ _ = ws
  obtain ⟨M, hM⟩ : ∃ n, w2.heap.size = n := ⟨_, rfl⟩
  have hMN : N + 1 + 1 < M := by rw [← hM]; exact HZ.out.lt
  have HD := Lib.hid (show RW ws M .u64 104 (w4 lo ++ w4 hi) by subst hWS; rw [← hM]; exact setRow_heap _ _ _ _ _ _ (Go.heap_alloc_new _ _))
  have HZ2 := Lib.hid (show RW ws (N + 1 + 1) .u64 86 (zer 4) by subst hWS; exact HZ.out.other ((setRow_other _ _ _ _ (by omega)).trans (Go.heap_alloc_old _ _ HZ.out.lt)))
  have HB3 := Lib.hid (show Below N w ws by subst hWS; exact Below.setRow (HB2.out.alloc (by omega) _) (by omega) _)
  rw [hM]
  clear hWS hM HZ HB2
  refine ⟨?_⟩
  go_upto_region 3 with fail
  generalize hW2 : World.alloc _ _ = W2
  obtain ⟨L, hL⟩ : ∃ n, ws.heap.size = n := ⟨_, rfl⟩
  have hLM : M < L := by rw [← hL]; exact HD.out.lt
  have HC1 := Lib.hid (show RW W2 M .u64 104 (w4 lo ++ w4 hi) by subst hW2; exact HD.out.other (Go.heap_alloc_old _ _ HD.out.lt))
  have HC2 := Lib.hid (show RW W2 (N + 1 + 1) .u64 86 (zer 4) by subst hW2; exact HZ2.out.other (Go.heap_alloc_old _ _ HZ2.out.lt))
  have HC3 := Lib.hid (show RW W2 L .u64 86 ([] ++ (zer 4).drop 0) by subst hW2; rw [← hL]; exact Go.heap_alloc_new _ _)
  have HCB := Lib.hid (show Below N w W2 by subst hW2; exact HB3.out.alloc (by omega) _)
  have HML := Lib.hid hMN
  have HLL := Lib.hid hLM
  rw [hL]
  clear hW2 hL HD HZ2 HB3 hz hz8 hMN hLM
  go_wp2_with fail
  go_loopw [7, 8] (fun cv iv wr => ∃ (k c : Nat) (s : List Nat), iv = .int .i64 k ∧ cv = .int .u64 c ∧ k ≤ 4 ∧ Fo s c k lo hi ∧ RW wr M .u64 104 (w4 lo ++ w4 hi) ∧ RW wr (N + 1 + 1) .u64 86 (zer 4) ∧ RW wr L .u64 86 (s ++ (zer 4).drop k) ∧ Below N w wr) (fun _ i _ => 4 - (intOf i).toNat)
  case atStart => exact ⟨0, 0, [], rfl, rfl, Nat.zero_le _, Fo.start lo hi, HC1.out, HC2.out, HC3.out, HCB.out⟩
  case round =>
    obtain ⟨k, c, s, rfl, rfl, hk, hfo, hr1, hr2, hr3, hbel⟩ := hrel
    have HF := Lib.hid hfo
    have HA1 := Lib.hid hr1
    have HA2 := Lib.hid hr2
    have HA3 := Lib.hid hr3
    have HBE := Lib.hid hbel
    clear hfo hr1 hr2 hr3 hbel HC1 HC2 HC3 HCB
    by_cases hlt : k < 4
    · have hlt' : (k : Int) < 4 := by omega
      have i1 : IntKind.i64.wrap ((k : Int) + 4) = (k : Int) + 4 := by rw [IntKind.wrap_i64]; omega
      have i2 : (0 : Int) ≤ (k : Int) + 4 := by omega
      have i3 : (k : Int) + 4 < 8 := by omega
      have i4 : ((k : Int) + 4).toNat = k + 4 := by omega
      have i5 : (k : Int) < 8 := by omega
      have c1 := HA1.out.cell (i := k) (by rw [w8_len]; omega)
      have c2 := HA1.out.cell (i := k + 4) (by rw [w8_len]; omega)
      rw [(w8_get lo hi k hlt).1] at c1
      rw [(w8_get lo hi k hlt).2] at c2
      have hyl : wd hi k < 18446744073709551616 := Nat.mod_lt _ (by decide)
      have hol : wd lo k < 18446744073709551616 := Nat.mod_lt _ (by decide)
      have hcl := HF.out.over
      have HST := Lib.hid (fun (x c' : Nat) => HF.out.step (x := x) (c' := c'))
      have M1 := Lib.hid (fun w => (mul64_any (wd hi k) 38 hyl (by decide) w).mono (R' := fun e w' => e = .returned (.tuple #[.int .u64 ((wd hi k * 38 / 18446744073709551616 : Nat) : Int), .int .u64 ((wd hi k * 38 % 18446744073709551616 : Nat) : Int)]) ∧ Below w.heap.size w w') (fun e w' h => ⟨h.1, by rw [h.2]; exact Below.refl _ _⟩))
      have HOO := Lib.hid (w8_get lo hi k hlt).1
      have hm : wd hi k * 38 < 18446744073709551616 * 38 := by omega
      generalize wd hi k = y at c2 M1 HST hm hyl
      generalize wd lo k = o at c1 HST hol HOO
      obtain ⟨q, hq⟩ : ∃ q, y * 38 = q := ⟨_, rfl⟩
      rw [hq] at M1 hm HST
      obtain ⟨l1, hl1⟩ : ∃ z, q % 18446744073709551616 = z := ⟨_, rfl⟩
      obtain ⟨h1, hh1⟩ : ∃ z, q / 18446744073709551616 = z := ⟨_, rfl⟩
      rw [hl1, hh1] at M1
      obtain ⟨s1, hs1⟩ : ∃ z, (l1 + o) % 18446744073709551616 = z := ⟨_, rfl⟩
      obtain ⟨d1, hd1⟩ : ∃ z, (l1 + o) / 18446744073709551616 = z := ⟨_, rfl⟩
      obtain ⟨s2, hs2⟩ : ∃ z, (s1 + c) % 18446744073709551616 = z := ⟨_, rfl⟩
      obtain ⟨d2, hd2⟩ : ∃ z, (s1 + c) / 18446744073709551616 = z := ⟨_, rfl⟩
      have A1 := Lib.hid (fun w => add64_0 l1 o s1 d1 (by omega) (by omega) w)
      have A2 := Lib.hid (fun w => add64_0 s1 c s2 d2 (by omega) (by omega) w)
      obtain ⟨h, hh⟩ : ∃ z, h1 + d1 + d2 = z := ⟨_, rfl⟩
      have W1 := Lib.hid (show IntKind.u64.wrap ((h1 : Int) + d1) = ((h1 + d1 : Nat) : Int) by rw [IntKind.wrap_u64]; omega)
      have W2 := Lib.hid (show IntKind.u64.wrap (((h1 + d1 : Nat) : Int) + d2) = (h : Int) by rw [IntKind.wrap_u64]; omega)
      have HF2 := Lib.hid (HST.out s2 h (by omega) (by omega))
      generalize hgg : h1 + d1 = h2 at W1 W2 hh
      have HAS := Lib.hid (app_set s k s2 HF.out.len hlt)
      clear hyl hol hcl hm hq hl1 hh1 hs1 hd1 hs2 hd2 hh hgg HST
      go_wp2_with fail
      refine (M1.out _).mono ?_
      rintro e wy ⟨rfl, hby⟩
      have HY1 := Lib.hid (HA1.out.ext hby)
      have HY2 := Lib.hid (HA2.out.ext hby)
      have HY3 := Lib.hid (HA3.out.ext hby)
      have HYB := Lib.hid (HBE.out.trans (hby.mono (show N ≤ _ by have := HA2.out.lt; omega)))
      clear hby c1 c2
      have c1 := HY1.out.cell (i := k) (by rw [w8_len]; omega)
      rw [HOO.out] at c1
      have f3 := HY3.out.frozen k
      have c3 := HY3.out.cell (i := k) (by have := HF.out.len; simp only [List.length_append, List.length_drop, zer_len]; omega)
      generalize (s ++ (zer 4).drop k).getD k 0 = oo at c3
      have a1 := A1.out
      have a2 := A2.out
      have w1 := W1.out
      have w2 := W2.out
      go_wp2_with fail
      go_roundw
      case rel => exact ⟨k + 1, h, s ++ [s2], rfl, rfl, hlt, HF2.out, HY1.out.other (setCell_other _ (by have := HLL.out; omega)), HY2.out.other (setCell_other _ (by have := HML.out; have := HLL.out; omega)), by rw [← HAS.out]; exact HY3.out.set s2, HYB.out.setCell (p := ⟨L, k, none⟩) (by show N ≤ L; have := HML.out; have := HLL.out; omega) _⟩
      case measure => simp [intOf]; omega
    · have hlt' : ¬ (k : Int) < 4 := by omega
      have hk4 : k = 4 := by omega
      subst hk4
      have HS2 := Lib.hid (HF.out.done HLO.out HHI.out)
      have h3 := HA3.out
      rw [HS2.out.1, List.drop_eq_nil_of_le (by rw [zer_len]; exact Nat.le_refl _), List.append_nil] at h3
      have H3 := Lib.hid h3
      have HOV := Lib.hid (fun w => overR_any (f1 (lo, hi)).1 (f1 (lo, hi)).2 w (fb_start lo hi HLO.out HHI.out))
      rw [show fk 2 ((f1 (lo, hi)).1, (f1 (lo, hi)).2) = fo lo hi from rfl, ← HS2.out.2] at HOV
      have HRE := Lib.hid (fun w => restR_any (fo lo hi) w (fo_lt lo hi))
      rw [HV.out] at HRE
      obtain ⟨t, ht⟩ : ∃ t, fo lo hi = t := ⟨_, rfl⟩
      rw [ht] at HOV HRE
      obtain ⟨u, hu⟩ : ∃ t, (f1 (lo, hi)).1 = t := ⟨_, rfl⟩
      rw [hu] at HOV H3
      have HSU := Lib.hid (sR u)
      clear h3 HA3 HF HS2 ht hu HA1
      go_wp2_with (refine wpList_load_row rfl 86 _ rfl L rfl 86 (nums .u64 (w4 u)) (0, 0) _ H3.out Try.underlying86 rfl HSU.out ?_)
      refine (HOV.out _).mono ?_
      rintro e w3 ⟨rfl, hb3⟩
      have HZ3 := Lib.hid (HA2.out.ext hb3)
      have HB4 := Lib.hid (HBE.out.trans (hb3.mono (show N ≤ _ by have := HA2.out.lt; omega)))
      clear hb3 HA2 HBE
      go_wp2_with fail
      refine (HRE.out _).mono ?_
      rintro e w5 ⟨rfl, hb5⟩
      have HZ4 := Lib.hid (HZ3.out.ext hb5)
      have HB5 := Lib.hid (HB4.out.trans (hb5.mono (show N ≤ _ by have := HZ3.out.lt; omega)))
      clear hb5 HZ3 HB4
      go_wp2_with (refine wpList_store_row rfl 86 _ _ rfl (N + 1 + 1) (nums .u64 (w4 x)) rfl rfl 86 _ HZ4.out HSX.out HO.out (nums_one _ _) ?_)
      refine bodyPost_ret (results_cell_row (by rfl) _ _ (N + 1 + 1) 86 (nums .u64 (w4 x)) (0, 0) _ (by rfl) (setRow_heap _ _ _ _ _ _ HZ4.out) Try.underlying86 rfl HSX.out) rfl ⟨rfl, ?_⟩
      rw [HN.out]
      exact Below.setRow HB5.out (by omega) _
end Go.Proofs.Ytfmclkmmkceldaa
