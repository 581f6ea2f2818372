/-
  Powers, what undoes a number, roots.
  Conditions: none.
-/
import Derived.Test.YtfmclkmmkceldaaFdI
import Derived.Test.YtfmclkmmkceldaaFdEq
namespace Go.Proofs.Ytfmclkmmkceldaa
open Go.RowKit

/-- A power, bit by bit from the highest on. -/
def pst (b e : Nat) : Nat → Nat → Nat
  | 0, acc => acc
  | i + 1, acc => pst b e i (if e / 2 ^ i % 2 = 1 then mu (mu acc acc) b else mu acc acc)
def pw (b e : Nat) : Nat := pst b e 256 1
theorem pst_lt (b e : Nat) : ∀ i acc, acc < 115792089237316195423570985008687907853269984665640564039457584007913129639936 → pst b e i acc < 115792089237316195423570985008687907853269984665640564039457584007913129639936
  | 0, _, h => h
  | i + 1, acc, _ => by
    rw [pst]
    refine pst_lt b e i _ ?_
    split <;> exact mu_lt _ _
theorem pw_lt (b e : Nat) : pw b e < 115792089237316195423570985008687907853269984665640564039457584007913129639936 := pst_lt b e 256 1 (by decide)
theorem mul_mod_congr {a b c d p : Nat} (h1 : a % p = c % p) (h2 : b % p = d % p) : a * b % p = c * d % p := by rw [Nat.mul_mod, h1, h2, ← Nat.mul_mod]
theorem pst_mod (b e : Nat) (hb : b < 115792089237316195423570985008687907853269984665640564039457584007913129639936) : ∀ i acc, acc < 115792089237316195423570985008687907853269984665640564039457584007913129639936 → pst b e i acc % 57896044618658097711785492504343953926634992332820282019728792003956564819949 = acc ^ (2 ^ i) * b ^ (e % 2 ^ i) % 57896044618658097711785492504343953926634992332820282019728792003956564819949
  | 0, acc, _ => by rw [pst, Nat.pow_zero, Nat.pow_one, Nat.mod_one, Nat.pow_zero, Nat.mul_one]
  | i + 1, acc, h => by
    have hsq := mu_lt acc acc
    have e1 : e % 2 ^ (i + 1) = e % 2 ^ i + 2 ^ i * (e / 2 ^ i % 2) := by rw [Nat.pow_succ, Nat.mod_mul]
    have e2 : mu acc acc % 57896044618658097711785492504343953926634992332820282019728792003956564819949 = acc ^ 2 % 57896044618658097711785492504343953926634992332820282019728792003956564819949 := by rw [mu_mod acc acc h h, Nat.pow_succ, Nat.pow_one]
    rw [pst, e1]
    by_cases hbit : e / 2 ^ i % 2 = 1
    · rw [if_pos hbit, pst_mod b e hb i _ (mu_lt _ _), hbit, Nat.mul_one]
      have e3 : mu (mu acc acc) b % 57896044618658097711785492504343953926634992332820282019728792003956564819949 = acc ^ 2 * b % 57896044618658097711785492504343953926634992332820282019728792003956564819949 := by rw [mu_mod _ _ hsq hb]; exact mul_mod_congr e2 rfl
      have e4 : (mu (mu acc acc) b) ^ 2 ^ i % 57896044618658097711785492504343953926634992332820282019728792003956564819949 = (acc ^ 2 * b) ^ 2 ^ i % 57896044618658097711785492504343953926634992332820282019728792003956564819949 := by rw [Nat.pow_mod, e3, ← Nat.pow_mod]
      rw [mul_mod_congr e4 rfl, Nat.mul_pow, ← Nat.pow_mul, Nat.mul_assoc, ← Nat.pow_add, Nat.pow_succ, Nat.mul_comm 2 (2 ^ i), Nat.add_comm (2 ^ i)]
    · rw [if_neg hbit, pst_mod b e hb i _ hsq, show e / 2 ^ i % 2 = 0 by omega]
      simp only [Nat.mul_zero, Nat.add_zero]
      have e4 : (mu acc acc) ^ 2 ^ i % 57896044618658097711785492504343953926634992332820282019728792003956564819949 = (acc ^ 2) ^ 2 ^ i % 57896044618658097711785492504343953926634992332820282019728792003956564819949 := by rw [Nat.pow_mod, e2, ← Nat.pow_mod]
      rw [mul_mod_congr e4 rfl, ← Nat.pow_mul, Nat.pow_succ, Nat.mul_comm 2 (2 ^ i)]
theorem pw_mod (b e : Nat) (hb : b < 115792089237316195423570985008687907853269984665640564039457584007913129639936) (he : e < 115792089237316195423570985008687907853269984665640564039457584007913129639936) : pw b e % 57896044618658097711785492504343953926634992332820282019728792003956564819949 = b ^ e % 57896044618658097711785492504343953926634992332820282019728792003956564819949 := by
  unfold pw
  have h256 : (2 : Nat) ^ 256 = 115792089237316195423570985008687907853269984665640564039457584007913129639936 := by decide
  have h := pst_mod b e hb 256 1 (by decide)
  rw [h256, Nat.mod_eq_of_lt he] at h
  generalize (115792089237316195423570985008687907853269984665640564039457584007913129639936 : Nat) = Z at h
  rw [h, Nat.one_pow, Nat.one_mul]
theorem RW.belowX {w w' : World} {b c : Nat} {k : IntKind} {t : TypeId} {l : List Nat} (h : RW w b k t l) (hb : BelowX w.heap.size c w w') (hc : b ≠ c) : RW w' b k t l := h.other (hb.block b h.lt hc)
theorem below_x {N b : Nat} {u v w : World} (h : Below N u v) (hb : BelowX v.heap.size b v w) (hN : N ≤ b) (hv : N ≤ v.heap.size) : Below N u w :=
  ⟨hb.os.trans h.os, hb.tape.trans h.tape, hb.output.trans h.output, Nat.le_trans h.size hb.size, fun k hk => (hb.block k (by omega) (by omega)).trans (h.block k hk)⟩
set_option maxRecDepth 100000 in
set_option maxHeartbeats 1000000 in
theorem powerC_any (a e : Nat) (w : World) (ha : a < 115792089237316195423570985008687907853269984665640564039457584007913129639936) :
    Calls Try.prog 117 #[.agg (nums .u64 (w4 a)), .agg (nums .u64 (w4 e))] w fun r w' => r = .returned (.agg (nums .u64 (w4 (pw a e)))) ∧ Below w.heap.size w w' := by
  have HAL := Lib.hid ha
  have HSA := Lib.hid (sC a)
  have HSE := Lib.hid (sC e)
  have HS1 := Lib.hid (sC 1)
  have hz := zC
  clear ha
  go_enter Try.func117, Try.ntmps117
  go_upto_region 1 with fail
  generalize hW1 : World.alloc _ _ = W1
  obtain ⟨N, hN⟩ : ∃ n, w.heap.size = n := ⟨_, rfl⟩
  have HR1 := Lib.hid (show RW W1 N .u64 70 (w4 a) by subst hW1; rw [← hN]; exact (alloc3_at w _ _ _).1)
  have HR2 := Lib.hid (show RW W1 (N + 1) .u64 70 (w4 e) by subst hW1; rw [← hN]; exact (alloc3_at w _ _ _).2.1)
  have HR3 := Lib.hid (show RW W1 (N + 1 + 1) .u64 70 (zer 4) by subst hW1; rw [← hN]; exact (alloc3_at w _ _ _).2.2)
  have HB1 := Lib.hid (show Below N w W1 by subst hW1; rw [← hN]; exact Below.alloc3 w _ _ _)
  have HNW := Lib.hid (show W1.heap.size = N + 1 + 1 + 1 by subst hW1; rw [← hN]; simp)
  have HN := Lib.hid hN
  rw [hN]
  clear hW1 hN
  go_wp2_with (first
    | (refine wpList_build' rfl 70 _ rfl (nums .u64 (w4 1)) (by kernel_rfl) ?_)
    | (refine wpList_store_row rfl 70 _ _ rfl W1.heap.size (nums .u64 (w4 1)) rfl rfl 70 _ (Go.heap_alloc_new _ _) HS1.out ?hold (nums_one _ _) (Stop.out ?_)))
  case hold => rw [size_nums, size_nums, zer_len, w4_len]
  generalize hWS : World.setRow _ _ _ = ws
  have HD := Lib.hid (show RW ws (N + 1 + 1 + 1) .u64 70 (w4 1) by subst hWS; rw [← HNW.out]; exact setRow_heap _ _ _ _ _ _ (Go.heap_alloc_new _ _))
  have HD1 := Lib.hid (show RW ws N .u64 70 (w4 a) by subst hWS; exact HR1.out.other ((setRow_other _ _ _ _ (by have := HNW.out; omega)).trans (Go.heap_alloc_old _ _ HR1.out.lt)))
  have HD2 := Lib.hid (show RW ws (N + 1) .u64 70 (w4 e) by subst hWS; exact HR2.out.other ((setRow_other _ _ _ _ (by have := HNW.out; omega)).trans (Go.heap_alloc_old _ _ HR2.out.lt)))
  have HD3 := Lib.hid (show RW ws (N + 1 + 1) .u64 70 (zer 4) by subst hWS; exact HR3.out.other ((setRow_other _ _ _ _ (by have := HNW.out; omega)).trans (Go.heap_alloc_old _ _ HR3.out.lt)))
  have HDB := Lib.hid (show Below N w ws by subst hWS; exact Below.setRow (HB1.out.alloc (by have := HNW.out; omega) _) (by have := HNW.out; omega) _)
  rw [HNW.out]
  clear hWS HR1 HR2 HR3 HB1 hz
  refine ⟨?_⟩
  go_wp2_with fail
  go_loopw [8] (fun iv wr => ∃ (k acc : Nat), iv = .int .i64 ((k : Int) - 1) ∧ k ≤ 256 ∧ acc < 115792089237316195423570985008687907853269984665640564039457584007913129639936 ∧ Hid (pst a e k acc = pw a e) ∧ RW wr N .u64 70 (w4 a) ∧ RW wr (N + 1) .u64 70 (w4 e) ∧ RW wr (N + 1 + 1) .u64 70 (zer 4) ∧ RW wr (N + 1 + 1 + 1) .u64 70 (w4 acc) ∧ Below N w wr) (fun i _ => (intOf i + 1).toNat)
  case atStart => exact ⟨256, 1, rfl, Nat.le_refl _, by decide, Lib.hid rfl, HD1.out, HD2.out, HD3.out, HD.out, HDB.out⟩
  case round =>
    obtain ⟨k, acc, rfl, hk, hacc, HP, h1, h2, h3, h4, hbel⟩ := hrel
    have HA1 := Lib.hid h1
    have HA2 := Lib.hid h2
    have HA3 := Lib.hid h3
    have HA4 := Lib.hid h4
    have HBE := Lib.hid hbel
    have HACC := Lib.hid hacc
    clear h1 h2 h3 h4 hbel hacc HD HD1 HD2 HD3 HDB
    cases k with
    | zero =>
      have HRES := Lib.hid (show acc = pw a e from HP.out)
      have HSC := Lib.hid (sC acc)
      have HO := Lib.hid (show (nums .u64 (zer 4)).size = (nums .u64 (w4 acc)).size by rw [size_nums, size_nums, zer_len, w4_len])
      go_wp2_with (first
        | (refine wpList_load_row rfl 70 _ rfl (N + 1 + 1 + 1) rfl 70 (nums .u64 (w4 acc)) (0, 0) _ HA4.out Try.underlying70 rfl HSC.out ?_)
        | (refine wpList_store_row rfl 70 _ _ rfl (N + 1 + 1) (nums .u64 (w4 acc)) rfl rfl 70 _ HA3.out HSC.out HO.out (nums_one _ _) ?_)
        )
      refine bodyPost_ret (results_cell_row (by rfl) _ _ (N + 1 + 1) 70 (nums .u64 (w4 acc)) (0, 0) _ (by rfl) (setRow_heap _ _ _ _ _ _ HA3.out) Try.underlying70 rfl HSC.out) rfl ⟨by rw [HRES.out], ?_⟩
      rw [HN.out]
      exact Below.setRow HBE.out (by omega) _
    | succ k =>
      have i0 : ((k + 1 : Nat) : Int) - 1 = (k : Int) := by omega
      rw [i0]
      have HSQ := Lib.hid (squareC_any acc (N + 1 + 1 + 1) wr HACC.out HA4.out)
      go_wp2_with fail
      refine (HSQ.out).mono ?_
      rintro e2 w2 ⟨rfl, hq4, hqx⟩
      have HC1 := Lib.hid (HA1.out.belowX hqx (by omega))
      have HC2 := Lib.hid (HA2.out.belowX hqx (by omega))
      have HC3 := Lib.hid (HA3.out.belowX hqx (by omega))
      have HC4 := Lib.hid hq4
      have HCB := Lib.hid (below_x HBE.out hqx (by omega) (by have := HA4.out.lt; omega))
      have HSQL := Lib.hid (mu_lt acc acc)
      obtain ⟨s, hs⟩ : ∃ s, mu acc acc = s := ⟨_, rfl⟩
      rw [hs] at HC4 HSQL
      have HP2 := Lib.hid (show pst a e k (if e / 2 ^ k % 2 = 1 then mu s a else s) = pw a e by have := HP.out; rw [pst, hs] at this; exact this)
      have HBT := Lib.hid (fun w => bitC_any e k w (by omega))
      clear hq4 hqx hs HA1 HA2 HA3 HA4 HBE HSQ
      go_wp2_with (refine wpList_load_row rfl 70 _ rfl (N + 1) rfl 70 (nums .u64 (w4 e)) (0, 0) _ HC2.out Try.underlying70 rfl HSE.out ?_)
      refine (HBT.out _).mono ?_
      rintro e3 w3 ⟨rfl, hb3⟩
      have HD1 := Lib.hid (HC1.out.ext hb3)
      have HD2 := Lib.hid (HC2.out.ext hb3)
      have HD3 := Lib.hid (HC3.out.ext hb3)
      have HD4 := Lib.hid (HC4.out.ext hb3)
      have HDB := Lib.hid (HCB.out.trans (hb3.mono (show N ≤ w2.heap.size by have := HC4.out.lt; omega)))
      clear hb3 HC1 HC2 HC3 HC4 HCB
      by_cases hbit : e / 2 ^ k % 2 = 1
      · have hdec : decide (e / 2 ^ k % 2 = 1) = true := by simpa using hbit
        rw [if_pos hbit] at HP2
        have HTM := Lib.hid (fun w h => timesC_any s a (N + 1 + 1 + 1) w HSQL.out HAL.out h)
        rw [hdec]
        clear hdec hbit
        go_wp2_with (refine wpList_load_row rfl 70 _ rfl N rfl 70 (nums .u64 (w4 a)) (0, 0) _ HD1.out Try.underlying70 rfl HSA.out ?_)
        refine (HTM.out w3 HD4.out).mono ?_
        rintro e4 w4' ⟨rfl, hq4, hqx⟩
        have HE1 := Lib.hid (HD1.out.belowX hqx (by omega))
        have HE2 := Lib.hid (HD2.out.belowX hqx (by omega))
        have HE3 := Lib.hid (HD3.out.belowX hqx (by omega))
        have HE4 := Lib.hid hq4
        have HEB := Lib.hid (below_x HDB.out hqx (by omega) (by have := HD4.out.lt; omega))
        clear hq4 hqx HD1 HD2 HD3 HD4 HDB
        go_wp2_with fail
        go_roundw
        case rel => exact ⟨k, mu s a, rfl, by omega, mu_lt _ _, HP2, HE1.out, HE2.out, HE3.out, HE4.out, HEB.out⟩
        case measure => simp [intOf]
      · have hdec : decide (e / 2 ^ k % 2 = 1) = false := by simpa using hbit
        rw [if_neg hbit] at HP2
        rw [hdec]
        clear hdec hbit
        go_wp2_with fail
        go_roundw
        case rel => exact ⟨k, s, rfl, by omega, HSQL.out, HP2, HD1.out, HD2.out, HD3.out, HD4.out, HDB.out⟩
        case measure => simp [intOf]
end Go.Proofs.Ytfmclkmmkceldaa
