/-
  Package scalar: products of four words and what is added.
  Conditions: none.
-/
import Derived.Test.YtfmclkmmkceldaaScC
namespace Go.Proofs.Ytfmclkmmkceldaa
open Go.RowKit

theorem pr_of (c : Nat) (hc : c < 115792089237316195423570985008687907853269984665640564039457584007913129639936) : Pr (w8 c) 0 c :=
  ⟨w8n_len c, w8_lt c, fun k hk => by
    rw [w8_w4 c hc, List.getD_eq_getElem?_getD, List.getElem?_append_right (by rw [w4_len]; omega), w4_len]
    match k, hk with
    | k + 4, _ =>
      rw [Nat.add_sub_cancel]
      match k with
      | 0 => rfl
      | 1 => rfl
      | 2 => rfl
      | 3 => rfl
      | _ + 4 => rfl, nv_w8 c (by omega)⟩
theorem ma_next (c n m i : Nat) : c + n % 18446744073709551616 ^ i * m + 18446744073709551616 ^ i * (wd n i * m) = c + n % 18446744073709551616 ^ (i + 1) * m := by
  rw [Nat.add_assoc, pr_next]
set_option maxRecDepth 100000 in
set_option maxHeartbeats 1000000 in
theorem mulAddS_any (n m c0 : Nat) (w : World) (hn : n < 115792089237316195423570985008687907853269984665640564039457584007913129639936) (hm : m < 115792089237316195423570985008687907853269984665640564039457584007913129639936) (hc0 : c0 < 115792089237316195423570985008687907853269984665640564039457584007913129639936) :
    Calls Try.prog 93 #[.agg (nums .u64 (w8 n)), .agg (nums .u64 (w8 m)), .agg (nums .u64 (w8 c0))] w fun e w' => e = .returned (.agg (nums .u64 (w8 (n * m + c0)))) ∧ Below w.heap.size w w' := by
  have HNL := Lib.hid hn
  have HML := Lib.hid hm
  have HCL := Lib.hid hc0
  have hz := zV
  clear hn hm hc0
  go_enter Try.func93, Try.ntmps93
  go_upto_region 1 with fail
  generalize hW1 : World.alloc _ _ = W1
  obtain ⟨N, hN⟩ : ∃ n, w.heap.size = n := ⟨_, rfl⟩
  have HR := Lib.hid (show RW W1 N .u64 105 (w8 n) ∧ RW W1 (N + 1) .u64 105 (w8 m) ∧ RW W1 (N + 1 + 1) .u64 105 (w8 c0) ∧ RW W1 (N + 1 + 1 + 1) .u64 105 (zer 8) ∧ Below N w W1 by
    subst hW1; rw [← hN]
    have h3 := alloc3_at w (.cells (nums .u64 (w8 n)) 105) (.cells (nums .u64 (w8 m)) 105) (.cells (nums .u64 (w8 c0)) 105)
    have hsz : (((w.alloc (.cells (nums .u64 (w8 n)) 105)).alloc (.cells (nums .u64 (w8 m)) 105)).alloc (.cells (nums .u64 (w8 c0)) 105)).heap.size = w.heap.size + 1 + 1 + 1 := by simp
    refine ⟨(Go.heap_alloc_old _ _ (by rw [hsz]; omega)).trans h3.1, (Go.heap_alloc_old _ _ (by rw [hsz]; omega)).trans h3.2.1, (Go.heap_alloc_old _ _ (by rw [hsz]; omega)).trans h3.2.2, ?_, (Below.alloc3 w _ _ _).alloc (by rw [hsz]; omega) _⟩
    rw [← hsz]; exact Go.heap_alloc_new _ _)
  have HR1 := Lib.hid HR.out.1
  have HR2 := Lib.hid HR.out.2.1
  have HR3 := Lib.hid HR.out.2.2.1
  have HR4 := Lib.hid HR.out.2.2.2.1
  have HB1 := Lib.hid HR.out.2.2.2.2
  have HN := Lib.hid hN
  rw [hN]
  clear hW1 hN hz HR
  go_wp2_with fail
  go_loopw [14] (fun iv wr => ∃ (i : Nat) (p : List Nat), iv = .int .i64 i ∧ i ≤ 4 ∧ Pr p i (c0 + n % 18446744073709551616 ^ i * m) ∧ RW wr N .u64 105 (w8 n) ∧ RW wr (N + 1) .u64 105 (w8 m) ∧ RW wr (N + 1 + 1) .u64 105 p ∧ RW wr (N + 1 + 1 + 1) .u64 105 (zer 8) ∧ Below N w wr) (fun i _ => 4 - (intOf i).toNat)
  case atStart => exact ⟨0, w8 c0, rfl, Nat.zero_le _, by rw [Nat.pow_zero, Nat.mod_one, Nat.zero_mul, Nat.add_zero]; exact pr_of c0 HCL.out, HR1.out, HR2.out, HR3.out, HR4.out, HB1.out⟩
  case round =>
    obtain ⟨i, p, rfl, hi, hpr, hr1, hr2, hr4, hr3, hbel⟩ := hrel
    have HPR := Lib.hid hpr
    have HA1 := Lib.hid hr1
    have HA2 := Lib.hid hr2
    have HA3 := Lib.hid hr3
    have HA4 := Lib.hid hr4
    have HBE := Lib.hid hbel
    clear hpr hr1 hr2 hr3 hr4 hbel HR1 HR2 HR3 HR4 HB1
    by_cases hlt : i < 4
    · have hlt' : (i : Int) < 4 := by omega
      have hi0 : (0 : Int) ≤ (i : Int) := by omega
      have HXL := Lib.hid (show wd n i < 18446744073709551616 from Nat.mod_lt _ (by decide))
      have HNX := Lib.hid (ma_next c0 n m i)
      have HWI := Lib.hid (w8n_get n i (by omega))
      obtain ⟨x, hx⟩ : ∃ x, wd n i = x := ⟨_, rfl⟩
      rw [hx] at HXL HNX HWI
      have c1 := HA1.out.cell (i := i) (by rw [w8n_len]; omega)
      rw [HWI.out] at c1
      clear hx
      go_wp2_with fail
      go_loopw [9, 21] (fun ov jv wr => ∃ (j c : Nat) (p : List Nat), jv = .int .i64 j ∧ ov = .int .u64 c ∧ j ≤ 4 ∧ Pj p i j c (c0 + n % 18446744073709551616 ^ i * m + 18446744073709551616 ^ i * (x * (m % 18446744073709551616 ^ j))) ∧ RW wr N .u64 105 (w8 n) ∧ RW wr (N + 1) .u64 105 (w8 m) ∧ RW wr (N + 1 + 1) .u64 105 p ∧ RW wr (N + 1 + 1 + 1) .u64 105 (zer 8) ∧ Below N w wr) (fun _ j _ => 4 - (intOf j).toNat)
      case atStart => exact ⟨0, 0, p, rfl, rfl, Nat.zero_le _, by rw [Nat.pow_zero, Nat.mod_one, Nat.mul_zero, Nat.mul_zero, Nat.add_zero]; exact Pj.start HPR.out i rfl, HA1.out, HA2.out, HA4.out, HA3.out, HBE.out⟩
      case round =>
        obtain ⟨j, c, p', rfl, rfl, hj, hpj, hr1, hr2, hr4, hr3, hbel⟩ := hrel
        have HPJ := Lib.hid hpj
        have HD1 := Lib.hid hr1
        have HD2 := Lib.hid hr2
        have HD3 := Lib.hid hr3
        have HD4 := Lib.hid hr4
        have HDE := Lib.hid hbel
        clear hpj hr1 hr2 hr3 hr4 hbel HA1 HA2 HA3 HA4 HBE c1
        by_cases hlt2 : j < 4
        · have hlt2' : (j : Int) < 4 := by omega
          have hj0 : (0 : Int) ≤ (j : Int) := by omega
          have i1 : IntKind.i64.wrap ((i : Int) + (j : Int)) = (i : Int) + (j : Int) := by rw [IntKind.wrap_i64]; omega
          have i2 : (0 : Int) ≤ (i : Int) + (j : Int) := by omega
          have i3 : (i : Int) + (j : Int) < 8 := by omega
          have i4 : ((i : Int) + (j : Int)).toNat = i + j := by omega
          have c2 := HD2.out.cell (i := j) (by rw [w8n_len]; omega)
          rw [w8n_get m j (by omega)] at c2
          have hyl : wd m j < 18446744073709551616 := Nat.mod_lt _ (by decide)
          have HNY := Lib.hid (pj_next x m j (18446744073709551616 ^ i) (c0 + n % 18446744073709551616 ^ i * m))
          obtain ⟨y, hy⟩ : ∃ y, wd m j = y := ⟨_, rfl⟩
          rw [hy] at c2 hyl HNY
          have hol := HPJ.out.lt (i + j)
          have hcl := HPJ.out.over
          have c3 := HD4.out.cell (i := i + j) (by rw [HPJ.out.len]; omega)
          obtain ⟨o, ho⟩ : ∃ o, p'.getD (i + j) 0 = o := ⟨_, rfl⟩
          rw [ho] at hol c3
          obtain ⟨q, hq⟩ : ∃ q, x * y = q := ⟨_, rfl⟩
          have hm := mul_lt64 HXL.out hyl
          rw [hq] at hm
          obtain ⟨lo, hlo⟩ : ∃ z, (q + o + c) % 18446744073709551616 = z := ⟨_, rfl⟩
          obtain ⟨hi', hhi⟩ : ∃ z, (q + o + c) / 18446744073709551616 = z := ⟨_, rfl⟩
          have HMW := Lib.hid (fun w => mulWordS_any x y o c lo hi' w HXL.out hyl hol hcl (by omega) (by rw [hq]; omega))
          have HST := Lib.hid (HPJ.out.step hlt hlt2 (lo := lo) (hi := hi') (a := x) (b := y) (by omega) (by omega) (by rw [ho, hq]; omega))
          rw [Nat.pow_add, HNY.out] at HST
          have f3 := HD4.out.frozen (i + j)
          clear hy hyl hol hcl ho hm hq hlo hhi HNY
          go_wp2_with fail
          refine (HMW.out _).mono ?_
          rintro e w' ⟨rfl, hw⟩
          rw [hw]
          go_wp2_with fail
          go_roundw
          case rel => exact ⟨j + 1, hi', _, rfl, rfl, hlt2, HST.out, HD1.out.other (setCell_other _ (by omega)), HD2.out.other (setCell_other _ (by omega)), HD4.out.set lo, HD3.out.other (setCell_other _ (by omega)), HDE.out.setCell (p := ⟨(N + 1 + 1), i + j, none⟩) (by show N ≤ N + 1 + 1; omega) _⟩
          case measure => simp [intOf]; omega
        · have hlt2' : ¬ (j : Int) < 4 := by omega
          obtain rfl : j = 4 := by omega
          have i1 : IntKind.i64.wrap ((i : Int) + 4) = (i : Int) + 4 := by rw [IntKind.wrap_i64]; omega
          have i2 : (0 : Int) ≤ (i : Int) + 4 := by omega
          have i3 : (i : Int) + 4 < 8 := by omega
          have i4 : ((i : Int) + 4).toNat = i + 4 := by omega
          have HPN := Lib.hid (show Pr (p'.set (i + 4) c) (i + 1) (c0 + n % 18446744073709551616 ^ (i + 1) * m) by
            rw [← HNX.out]
            have := HPJ.out.done hlt
            rw [show m % 18446744073709551616 ^ 4 = m from Nat.mod_eq_of_lt HML.out] at this
            exact this)
          have c2 := HD4.out.cell (i := i + 4) (by rw [HPJ.out.len]; omega)
          have f2 := HD4.out.frozen (i + 4)
          generalize p'.getD (i + 4) 0 = o at c2
          go_wp2_with fail
          go_roundw
          case rel => exact ⟨i + 1, _, rfl, hlt, HPN.out, HD1.out.other (setCell_other _ (by omega)), HD2.out.other (setCell_other _ (by omega)), HD4.out.set c, HD3.out.other (setCell_other _ (by omega)), HDE.out.setCell (p := ⟨(N + 1 + 1), i + 4, none⟩) (by show N ≤ N + 1 + 1; omega) _⟩
          case measure => simp [intOf]; omega
    · have hlt' : ¬ (i : Int) < 4 := by omega
      obtain rfl : i = 4 := by omega
      have HV := Lib.hid (show p = w8 (n * m + c0) from w8_of p _ HPR.out.len HPR.out.lt (by
        rw [HPR.out.val, show n % 18446744073709551616 ^ 4 = n from Nat.mod_eq_of_lt HNL.out, Nat.add_comm]))
      have HS8 := Lib.hid (sV p HPR.out.len)
      have HO := Lib.hid (show (nums .u64 (zer 8)).size = (nums .u64 p).size by rw [size_nums, size_nums, zer_len, HPR.out.len])
      go_wp2_with (first
        | (refine wpList_load_row rfl 105 _ rfl (N + 1 + 1) rfl 105 (nums .u64 p) (0, 0) _ HA4.out Try.underlying105 rfl HS8.out ?_)
        | (refine wpList_store_row rfl 105 _ _ rfl (N + 1 + 1 + 1) (nums .u64 p) rfl rfl 105 _ HA3.out HS8.out HO.out (nums_one _ _) ?_)
        )
      refine bodyPost_ret (results_cell_row (by rfl) _ _ (N + 1 + 1 + 1) 105 (nums .u64 p) (0, 0) _ (by rfl) (setRow_heap _ _ _ _ _ _ HA3.out) Try.underlying105 rfl HS8.out) rfl ⟨by rw [HV.out], ?_⟩
      rw [HN.out]
      exact Below.setRow HBE.out (by omega) _
end Go.Proofs.Ytfmclkmmkceldaa
