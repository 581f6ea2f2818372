/-
  The document's words: power.
  Conditions: none.
-/
import Derived.Test.YtfmclkmmkceldaaFdRe
namespace Go.Proofs.Ytfmclkmmkceldaa
open Go.RowKit

def rst (b e : Nat) : Nat → Nat → Nat
  | 0, acc => acc
  | i + 1, acc => rst b e i (if e / 2 ^ i % 2 = 1 then acc * acc % 57896044618658097711785492504343953926634992332820282019728792003956564819949 * b % 57896044618658097711785492504343953926634992332820282019728792003956564819949 else acc * acc % 57896044618658097711785492504343953926634992332820282019728792003956564819949)
theorem P_0 : 0 < 57896044618658097711785492504343953926634992332820282019728792003956564819949 := by decide
theorem rst_lt (b e : Nat) : ∀ i acc, acc < 57896044618658097711785492504343953926634992332820282019728792003956564819949 → rst b e i acc < 57896044618658097711785492504343953926634992332820282019728792003956564819949
  | 0, _, h => h
  | i + 1, acc, _ => by
    rw [rst]
    refine rst_lt b e i _ ?_
    split <;> exact Nat.mod_lt _ P_0
theorem rst_mod (b e : Nat) : ∀ i acc, rst b e i acc % 57896044618658097711785492504343953926634992332820282019728792003956564819949 = acc ^ (2 ^ i) * b ^ (e % 2 ^ i) % 57896044618658097711785492504343953926634992332820282019728792003956564819949
  | 0, acc => by rw [rst, Nat.pow_zero, Nat.pow_one, Nat.mod_one, Nat.pow_zero, Nat.mul_one]
  | i + 1, acc => by
    have e1 : e % 2 ^ (i + 1) = e % 2 ^ i + 2 ^ i * (e / 2 ^ i % 2) := by rw [Nat.pow_succ, Nat.mod_mul]
    have e2 : acc * acc % 57896044618658097711785492504343953926634992332820282019728792003956564819949 % 57896044618658097711785492504343953926634992332820282019728792003956564819949 = acc ^ 2 % 57896044618658097711785492504343953926634992332820282019728792003956564819949 := by rw [Nat.mod_mod, Nat.pow_succ, Nat.pow_one]
    rw [rst, e1]
    by_cases hbit : e / 2 ^ i % 2 = 1
    · rw [if_pos hbit, rst_mod b e i _, hbit, Nat.mul_one]
      have e3 : acc * acc % 57896044618658097711785492504343953926634992332820282019728792003956564819949 * b % 57896044618658097711785492504343953926634992332820282019728792003956564819949 % 57896044618658097711785492504343953926634992332820282019728792003956564819949 = acc ^ 2 * b % 57896044618658097711785492504343953926634992332820282019728792003956564819949 := by rw [Nat.mod_mod]; exact mul_mod_congr e2 rfl
      have e4 : (acc * acc % 57896044618658097711785492504343953926634992332820282019728792003956564819949 * b % 57896044618658097711785492504343953926634992332820282019728792003956564819949) ^ 2 ^ i % 57896044618658097711785492504343953926634992332820282019728792003956564819949 = (acc ^ 2 * b) ^ 2 ^ i % 57896044618658097711785492504343953926634992332820282019728792003956564819949 := by rw [Nat.pow_mod, e3, ← Nat.pow_mod]
      rw [mul_mod_congr e4 rfl, Nat.mul_pow, ← Nat.pow_mul, Nat.mul_assoc, ← Nat.pow_add, Nat.pow_succ, Nat.mul_comm 2 (2 ^ i), Nat.add_comm (2 ^ i)]
    · rw [if_neg hbit, rst_mod b e i _, show e / 2 ^ i % 2 = 0 by omega]
      simp only [Nat.mul_zero, Nat.add_zero]
      have e4 : (acc * acc % 57896044618658097711785492504343953926634992332820282019728792003956564819949) ^ 2 ^ i % 57896044618658097711785492504343953926634992332820282019728792003956564819949 = (acc ^ 2) ^ 2 ^ i % 57896044618658097711785492504343953926634992332820282019728792003956564819949 := by rw [Nat.pow_mod, e2, ← Nat.pow_mod]
      rw [mul_mod_congr e4 rfl, ← Nat.pow_mul, Nat.pow_succ, Nat.mul_comm 2 (2 ^ i)]
theorem rst_val (b e : Nat) (he : e < 115792089237316195423570985008687907853269984665640564039457584007913129639936) : rst b e 256 1 = b ^ e % 57896044618658097711785492504343953926634992332820282019728792003956564819949 := by
  have h256 : (2 : Nat) ^ 256 = 115792089237316195423570985008687907853269984665640564039457584007913129639936 := by decide
  have h := rst_mod b e 256 1
  rw [h256, Nat.mod_eq_of_lt he, Nat.mod_eq_of_lt (rst_lt b e 256 1 (by decide))] at h
  generalize (115792089237316195423570985008687907853269984665640564039457584007913129639936 : Nat) = Z at h
  rw [h, Nat.one_pow, Nat.one_mul]
set_option maxRecDepth 100000 in
set_option maxHeartbeats 1000000 in
theorem powerR_any (a e : Nat) (w : World) (ha : a < 57896044618658097711785492504343953926634992332820282019728792003956564819949) (he : e < 115792089237316195423570985008687907853269984665640564039457584007913129639936) :
    Calls Try.prog 129 #[.agg (nums .u64 (w4 a)), .agg (nums .u64 (w4 e))] w fun r w' => r = .returned (.agg (nums .u64 (w4 (a ^ e % 57896044618658097711785492504343953926634992332820282019728792003956564819949)))) ∧ Below w.heap.size w w' := by
  rw [← rst_val a e he]
  obtain ⟨vv, hvv⟩ : ∃ v, rst a e 256 1 = v := ⟨_, rfl⟩
  rw [hvv]
  have HVV := Lib.hid hvv
  have HAL := Lib.hid (show a < 115792089237316195423570985008687907853269984665640564039457584007913129639936 by omega)
  have HSA := Lib.hid (sR a)
  have HS1 := Lib.hid (sR 1)
  have hz := zR
  clear ha he hvv
  go_enter Try.func129, Try.ntmps129
  go_upto_region 1 with fail
  generalize hW1 : World.alloc _ _ = W1
  obtain ⟨N, hN⟩ : ∃ n, w.heap.size = n := ⟨_, rfl⟩
  have HR1 := Lib.hid (show RW W1 N .u64 86 (w4 a) by subst hW1; rw [← hN]; exact (alloc3_at w _ _ _).1)
  have HR2 := Lib.hid (show RW W1 (N + 1) .u64 86 (w4 e) by subst hW1; rw [← hN]; exact (alloc3_at w _ _ _).2.1)
  have HR3 := Lib.hid (show RW W1 (N + 1 + 1) .u64 86 (zer 4) by subst hW1; rw [← hN]; exact (alloc3_at w _ _ _).2.2)
  have HB1 := Lib.hid (show Below N w W1 by subst hW1; rw [← hN]; exact Below.alloc3 w _ _ _)
  have HNW := Lib.hid (show W1.heap.size = N + 1 + 1 + 1 by subst hW1; rw [← hN]; simp)
  have HN := Lib.hid hN
  rw [hN]
  clear hW1 hN
  go_wp2_with (first
    | (refine wpList_build' rfl 86 _ rfl (nums .u64 (w4 1)) (by kernel_rfl) ?_)
    | (refine wpList_store_row rfl 86 _ _ rfl W1.heap.size (nums .u64 (w4 1)) rfl rfl 86 _ (Go.heap_alloc_new _ _) HS1.out ?hold (nums_one _ _) (Stop.out ?_)))
  case hold => rw [size_nums, size_nums, zer_len, w4_len]
  generalize hWS : World.setRow _ _ _ = ws
  have HD := Lib.hid (show RW ws (N + 1 + 1 + 1) .u64 86 (w4 1) by subst hWS; rw [← HNW.out]; exact setRow_heap _ _ _ _ _ _ (Go.heap_alloc_new _ _))
  have HD1 := Lib.hid (show RW ws N .u64 86 (w4 a) by subst hWS; exact HR1.out.other ((setRow_other _ _ _ _ (by have := HNW.out; omega)).trans (Go.heap_alloc_old _ _ HR1.out.lt)))
  have HD2 := Lib.hid (show RW ws (N + 1) .u64 86 (w4 e) by subst hWS; exact HR2.out.other ((setRow_other _ _ _ _ (by have := HNW.out; omega)).trans (Go.heap_alloc_old _ _ HR2.out.lt)))
  have HD3 := Lib.hid (show RW ws (N + 1 + 1) .u64 86 (zer 4) by subst hWS; exact HR3.out.other ((setRow_other _ _ _ _ (by have := HNW.out; omega)).trans (Go.heap_alloc_old _ _ HR3.out.lt)))
  have HDB := Lib.hid (show Below N w ws by subst hWS; exact Below.setRow (HB1.out.alloc (by have := HNW.out; omega) _) (by have := HNW.out; omega) _)
  rw [HNW.out]
  clear hWS HR1 HR2 HR3 HB1 hz
  refine ⟨?_⟩
  go_wp2_with fail
  go_loopw [6] (fun iv wr => ∃ (k acc : Nat), iv = .int .i64 ((k : Int) - 1) ∧ k ≤ 256 ∧ acc < 57896044618658097711785492504343953926634992332820282019728792003956564819949 ∧ Hid (rst a e k acc = vv) ∧ RW wr N .u64 86 (w4 a) ∧ RW wr (N + 1) .u64 86 (w4 e) ∧ RW wr (N + 1 + 1) .u64 86 (zer 4) ∧ RW wr (N + 1 + 1 + 1) .u64 86 (w4 acc) ∧ Below N w wr) (fun i _ => (intOf i + 1).toNat)
  case atStart => exact ⟨256, 1, rfl, Nat.le_refl _, by decide, HVV, HD1.out, HD2.out, HD3.out, HD.out, HDB.out⟩
  case round =>
    obtain ⟨k, acc, rfl, hk, hacc, HP, h1, h2, h3, h4, hbel⟩ := hrel
    have HA1 := Lib.hid h1
    have HA2 := Lib.hid h2
    have HA3 := Lib.hid h3
    have HA4 := Lib.hid h4
    have HBE := Lib.hid hbel
    have HACC := Lib.hid (show acc < 115792089237316195423570985008687907853269984665640564039457584007913129639936 by omega)
    have HSC := Lib.hid (sR acc)
    clear h1 h2 h3 h4 hbel hacc HD HD1 HD2 HD3 HDB
    cases k with
    | zero =>
      have HRES := Lib.hid (show acc = vv from HP.out)
      have HO := Lib.hid (show (nums .u64 (zer 4)).size = (nums .u64 (w4 acc)).size by rw [size_nums, size_nums, zer_len, w4_len])
      go_wp2_with (first
        | (refine wpList_load_row rfl 86 _ rfl (N + 1 + 1 + 1) rfl 86 (nums .u64 (w4 acc)) (0, 0) _ HA4.out Try.underlying86 rfl HSC.out ?_)
        | (refine wpList_store_row rfl 86 _ _ rfl (N + 1 + 1) (nums .u64 (w4 acc)) rfl rfl 86 _ HA3.out HSC.out HO.out (nums_one _ _) ?_)
        )
      refine bodyPost_ret (results_cell_row (by rfl) _ _ (N + 1 + 1) 86 (nums .u64 (w4 acc)) (0, 0) _ (by rfl) (setRow_heap _ _ _ _ _ _ HA3.out) Try.underlying86 rfl HSC.out) rfl ⟨by rw [HRES.out], ?_⟩
      rw [HN.out]
      exact Below.setRow HBE.out (by omega) _
    | succ k =>
      have i0 : ((k + 1 : Nat) : Int) - 1 = (k : Int) := by omega
      rw [i0]
      have HSQ := Lib.hid (fun w => mulR_any acc acc w HACC.out HACC.out)
      have HSL := Lib.hid (show acc * acc % 57896044618658097711785492504343953926634992332820282019728792003956564819949 < 57896044618658097711785492504343953926634992332820282019728792003956564819949 from Nat.mod_lt _ P_0)
      obtain ⟨s, hs⟩ : ∃ s, acc * acc % 57896044618658097711785492504343953926634992332820282019728792003956564819949 = s := ⟨_, rfl⟩
      rw [hs] at HSQ HSL
      have HP2 := Lib.hid (show rst a e k (if e / 2 ^ k % 2 = 1 then s * a % 57896044618658097711785492504343953926634992332820282019728792003956564819949 else s) = vv by have := HP.out; rw [rst, hs] at this; exact this)
      have HSS := Lib.hid (sR s)
      have HO := Lib.hid (show (nums .u64 (w4 acc)).size = (nums .u64 (w4 s)).size by rw [size_nums, size_nums, w4_len, w4_len])
      clear hs HP
      go_wp2_with (refine wpList_load_row rfl 86 _ rfl (N + 1 + 1 + 1) rfl 86 (nums .u64 (w4 acc)) (0, 0) _ HA4.out Try.underlying86 rfl HSC.out ?_)
      refine (HSQ.out _).mono ?_
      rintro e2 w2 ⟨rfl, hb2⟩
      have HC1 := Lib.hid (HA1.out.ext hb2)
      have HC2 := Lib.hid (HA2.out.ext hb2)
      have HC3 := Lib.hid (HA3.out.ext hb2)
      have HC4 := Lib.hid (HA4.out.ext hb2)
      have HCB := Lib.hid (HBE.out.trans (hb2.mono (show N ≤ _ by have := HA4.out.lt; omega)))
      clear hb2 HA1 HA2 HA3 HA4 HBE HSQ HSC HACC
      go_wp2_with (refine wpList_store_row rfl 86 _ _ rfl (N + 1 + 1 + 1) (nums .u64 (w4 s)) rfl rfl 86 _ HC4.out HSS.out HO.out (nums_one _ _) (Stop.out ?_))
      generalize hWS : World.setRow _ _ _ = ws
      have HD1 := Lib.hid (show RW ws N .u64 86 (w4 a) by subst hWS; exact HC1.out.other (setRow_other _ _ _ _ (by omega)))
      have HD2 := Lib.hid (show RW ws (N + 1) .u64 86 (w4 e) by subst hWS; exact HC2.out.other (setRow_other _ _ _ _ (by omega)))
      have HD3 := Lib.hid (show RW ws (N + 1 + 1) .u64 86 (zer 4) by subst hWS; exact HC3.out.other (setRow_other _ _ _ _ (by omega)))
      have HD4 := Lib.hid (show RW ws (N + 1 + 1 + 1) .u64 86 (w4 s) by subst hWS; exact setRow_heap _ _ _ _ _ _ HC4.out)
      have HDB := Lib.hid (show Below N w ws by subst hWS; exact Below.setRow HCB.out (by omega) _)
      clear hWS HC1 HC2 HC3 HC4 HCB HO
      refine ⟨?_⟩
      have c2 := HD2.out.cell (i := k / 64) (by rw [w4_len]; omega)
      rw [w4_get _ (k / 64) (by omega)] at c2
      have HDV := Lib.hid (div_bit e k)
      have hw : wd e (k / 64) < 18446744073709551616 := Nat.mod_lt _ (by decide)
      have e1 : (k : Int) / 64 = ((k / 64 : Nat) : Int) := by omega
      have e2 : (k : Int) % 64 = ((k % 64 : Nat) : Int) := by omega
      have hq : ((k / 64 : Nat) : Int) < 4 := by omega
      have hq0 : (0 : Int) ≤ ((k / 64 : Nat) : Int) := by omega
      have hr : ((k % 64 : Nat) : Int) < 64 := by omega
      generalize k / 64 = q at e1 hq hq0 c2 HDV hw
      generalize k % 64 = r at e2 hr HDV
      generalize wd e q = x at c2 HDV hw
      have hbits : bits .and .u64 ((x : Int) / 2 ^ r) 1 = ((x / 2 ^ r % 2 : Nat) : Int) := by
        rw [show (x : Int) / 2 ^ r = ((x / 2 ^ r : Nat) : Int) by simp]
        exact and1N (x / 2 ^ r) (Nat.lt_of_le_of_lt (Nat.div_le_self _ _) hw)
      rw [HDV.out] at hbits
      clear hw
      by_cases hbit : e / 2 ^ k % 2 = 1
      · rw [if_pos hbit] at HP2
        rw [hbit] at hbits
        have hbits1 : bits .and .u64 ((x : Int) / 2 ^ r) 1 = 1 := hbits
        have HTM := Lib.hid (fun w => mulR_any s a w (by have := HSL.out; omega) HAL.out)
        have HTL := Lib.hid (show s * a % 57896044618658097711785492504343953926634992332820282019728792003956564819949 < 57896044618658097711785492504343953926634992332820282019728792003956564819949 from Nat.mod_lt _ P_0)
        obtain ⟨t, ht⟩ : ∃ t, s * a % 57896044618658097711785492504343953926634992332820282019728792003956564819949 = t := ⟨_, rfl⟩
        rw [ht] at HTM HTL HP2
        have HST := Lib.hid (sR t)
        have HO := Lib.hid (show (nums .u64 (w4 s)).size = (nums .u64 (w4 t)).size by rw [size_nums, size_nums, w4_len, w4_len])
        clear hbits hbit ht
        go_wp2_with (first
          | (refine wpList_load_row rfl 86 _ rfl (N + 1 + 1 + 1) rfl 86 (nums .u64 (w4 s)) (0, 0) _ HD4.out Try.underlying86 rfl HSS.out ?_)
          | (refine wpList_load_row rfl 86 _ rfl N rfl 86 (nums .u64 (w4 a)) (0, 0) _ HD1.out Try.underlying86 rfl HSA.out ?_)
          )
        refine (HTM.out _).mono ?_
        rintro e4 w5 ⟨rfl, hb5⟩
        have HE1 := Lib.hid (HD1.out.ext hb5)
        have HE2 := Lib.hid (HD2.out.ext hb5)
        have HE3 := Lib.hid (HD3.out.ext hb5)
        have HE4 := Lib.hid (HD4.out.ext hb5)
        have HEB := Lib.hid (HDB.out.trans (hb5.mono (show N ≤ _ by have := HD4.out.lt; omega)))
        clear hb5 HD1 HD2 HD3 HD4 HDB c2
        go_wp2_with (refine wpList_store_row rfl 86 _ _ rfl (N + 1 + 1 + 1) (nums .u64 (w4 t)) rfl rfl 86 _ HE4.out HST.out HO.out (nums_one _ _) (Stop.out ?_))
        generalize hWS : World.setRow _ _ _ = wz
        have HF1 := Lib.hid (show RW wz N .u64 86 (w4 a) by subst hWS; exact HE1.out.other (setRow_other _ _ _ _ (by omega)))
        have HF2 := Lib.hid (show RW wz (N + 1) .u64 86 (w4 e) by subst hWS; exact HE2.out.other (setRow_other _ _ _ _ (by omega)))
        have HF3 := Lib.hid (show RW wz (N + 1 + 1) .u64 86 (zer 4) by subst hWS; exact HE3.out.other (setRow_other _ _ _ _ (by omega)))
        have HF4 := Lib.hid (show RW wz (N + 1 + 1 + 1) .u64 86 (w4 t) by subst hWS; exact setRow_heap _ _ _ _ _ _ HE4.out)
        have HFB := Lib.hid (show Below N w wz by subst hWS; exact Below.setRow HEB.out (by omega) _)
        clear hWS HE1 HE2 HE3 HE4 HEB
        refine ⟨?_⟩
        go_wp2_with fail
        go_roundw
        case rel => exact ⟨k, t, rfl, by omega, HTL.out, HP2, HF1.out, HF2.out, HF3.out, HF4.out, HFB.out⟩
        case measure => simp [intOf]
      · rw [if_neg hbit] at HP2
        rw [show e / 2 ^ k % 2 = 0 by omega] at hbits
        have hbits1 : bits .and .u64 ((x : Int) / 2 ^ r) 1 = 0 := hbits
        clear hbits hbit
        go_wp2_with fail
        go_roundw
        case rel => exact ⟨k, s, rfl, by omega, HSL.out, HP2, HD1.out, HD2.out, HD3.out, HD4.out, HDB.out⟩
        case measure => simp [intOf]
end Go.Proofs.Ytfmclkmmkceldaa
