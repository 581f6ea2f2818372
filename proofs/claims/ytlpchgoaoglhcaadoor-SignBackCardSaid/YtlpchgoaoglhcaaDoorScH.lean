/-
  Package scalar: num, bit, products of words.
  Package scalar: products of four words and what is added.
  Package scalar: step and rest of the long division.
  Package scalar: read; rows of bytes out of a box.
  Package scalar's functions: Of, Good, Add, MulAdd, Neg, Bit.
  Bits: package scalar's and the document's.
  Conditions: none.
-/
import Derived.Test.YtlpchgoaoglhcaaDoorMb08
import Derived.Test.YtlpchgoaoglhcaaDoorUpT
import Derived.Lib.Walk
namespace Go.Proofs.YtlpchgoaoglhcaaDoor
open Go.RowKit
set_option maxRecDepth 100000 in
set_option maxHeartbeats 1000000 in
theorem numS_any (n : Nat) (w : World) :
    Calls Tryd.prog 55 #[.agg (nums .u64 (w4 n))] w fun e w' => e = .returned (.agg (byteVals (b32 n)).toArray) ∧ Below w.heap.size w w' := by
  have hz := zM
  have hz2 := zS
  go_enter Tryd.func55, Tryd.ntmps55
  go_upto_region 2 with fail
  generalize hW1 : World.alloc _ _ = W1
  obtain ⟨N, hN⟩ : ∃ n, w.heap.size = n := ⟨_, rfl⟩
  have HR1 := Lib.hid (show RW W1 N .u64 97 (w4 n) by subst hW1; rw [← hN]; exact (alloc3_at w _ _ _).1)
  have HR2 := Lib.hid (show BT W1 (N + 1) 67 (zerB 32) by subst hW1; rw [← hN]; exact (alloc3_at w _ _ _).2.1)
  have HR3 := Lib.hid (show BT W1 (N + 1 + 1) 67 ((List.range 0).map (byt n) ++ zerB (32 - 0)) by subst hW1; rw [← hN]; exact (alloc3_at w _ _ _).2.2)
  have HB1 := Lib.hid (show Below N w W1 by subst hW1; rw [← hN]; exact Below.alloc3 w _ _ _)
  have HN := Lib.hid hN
  rw [hN]
  clear hW1 hN hz hz2
  go_wp2_with fail
  go_loopw [5] (fun iv wr => ∃ (k : Nat), iv = .int .i64 k ∧ k ≤ 32 ∧ RW wr N .u64 97 (w4 n) ∧ BT wr (N + 1) 67 (zerB 32) ∧ BT wr (N + 1 + 1) 67 ((List.range k).map (byt n) ++ zerB (32 - k)) ∧ Below N w wr) (fun i _ => 32 - (intOf i).toNat)
  case atStart => exact ⟨0, rfl, Nat.zero_le _, HR1.out, HR2.out, HR3.out, HB1.out⟩
  case round =>
    obtain ⟨k, rfl, hk, hr1, hr2, hr3, hbel⟩ := hrel
    have HA1 := Lib.hid hr1
    have HA2 := Lib.hid hr2
    have HA3 := Lib.hid hr3
    have HBE := Lib.hid hbel
    clear hr1 hr2 hr3 hbel HR1 HR2 HR3 HB1
    by_cases hlt : k < 32
    · have hlt' : (k : Int) < 32 := by omega
      have c1 := HA1.out.cell (i := k / 8) (by rw [w4_len]; omega)
      rw [w4_get n (k / 8) (by omega)] at c1
      have HBY := Lib.hid (wd_byte n (k / 8) (k % 8) (by omega))
      have hbk : 8 * (k / 8) + k % 8 = k := by omega
      rw [hbk] at HBY
      have e1 : (k : Int) / 8 = ((k / 8 : Nat) : Int) := by omega
      have e2 : (k : Int) % 8 = ((k % 8 : Nat) : Int) := by omega
      have hq : ((k / 8 : Nat) : Int) < 4 := by omega
      have hr : k % 8 < 8 := by omega
      clear hbk
      generalize k / 8 = q at e1 hq c1 HBY
      generalize k % 8 = r at e2 hr HBY
      generalize wd n q = x at c1 HBY
      obtain ⟨g, hg⟩ : ∃ g, 8 * r = g := ⟨_, rfl⟩
      have j1 : (r : Int) * 8 = (g : Int) := by omega
      have j2 : IntKind.i64.wrap (g : Int) = (g : Int) := by rw [IntKind.wrap_i64]; omega
      rw [hg] at HBY
      have h8 : IntKind.u8.wrap ((x : Int) / 2 ^ g) = ((byt n k).toNat : Int) := by
        have h := HBY.out
        rw [show (x : Int) / 2 ^ g = ((x / 2 ^ g : Nat) : Int) by simp, IntKind.wrap_u8]
        unfold byt
        rw [UInt8.toNat_ofNat', Nat.mod_eq_of_lt (Nat.mod_lt _ (by decide)), ← h]
        omega
      have HS := Lib.hid (show ((List.range k).map (byt n) ++ zerB (32 - k)).set k (byt n k) = (List.range (k + 1)).map (byt n) ++ zerB (32 - (k + 1)) by
        rw [show 32 - k = (32 - (k + 1)) + 1 by omega]
        exact fill_set (byt n) 0 k (32 - (k + 1)))
      obtain ⟨z, hz⟩ : ∃ z, byt n k = z := ⟨_, rfl⟩
      rw [hz] at h8 HS
      have f3 := HA3.out.frozen k
      have c3 := HA3.out.cell (i := k) (by simp only [List.length_append, List.length_map, List.length_range, zerB_len]; omega)
      generalize ((List.range k).map (byt n) ++ zerB (32 - k)).getD k 0 = oo at c3
      clear hz hg
      go_wp2_with fail
      go_roundw
      case rel => exact ⟨k + 1, rfl, hlt, HA1.out.other (setCell_other _ (by omega)), HA2.out.other (setCell_other _ (by omega)), by rw [← HS.out]; exact HA3.out.set z, HBE.out.setCell (p := ⟨N + 1 + 1, k, none⟩) (by show N ≤ N + 1 + 1; omega) _⟩
      case measure => simp [intOf]; omega
    · have hlt' : ¬ (k : Int) < 32 := by omega
      have HSB := Lib.hid (sM (b32 n) (b32_len n))
      have HO := Lib.hid (show (byteVals (zerB 32)).toArray.size = (byteVals (b32 n)).toArray.size by rw [size_byteVals, size_byteVals, zerB_len, b32_len])
      have h3 := HA3.out
      rw [show k = 32 by omega, ← b32_byt, show zerB (32 - 32) = [] from rfl, List.append_nil] at h3
      have H3 := Lib.hid h3
      clear h3 HA3
      go_wp2_with (first
        | (refine wpList_load_row rfl 67 _ rfl (N + 1 + 1) rfl 67 ((byteVals (b32 n)).toArray) (0, 0) _ H3.out Tryd.underlying67 rfl HSB.out ?_)
        | (refine wpList_store_row rfl 67 _ _ rfl (N + 1) ((byteVals (b32 n)).toArray) rfl rfl 67 _ HA2.out HSB.out HO.out (byteVals_one _) ?_)
        )
      refine bodyPost_ret (results_cell_row (by rfl) _ _ (N + 1) 67 ((byteVals (b32 n)).toArray) (0, 0) _ (by rfl) (setRow_heap _ _ _ _ _ _ HA2.out) Tryd.underlying67 rfl HSB.out) rfl ⟨rfl, ?_⟩
      rw [HN.out]
      exact Below.setRow HBE.out (by omega) _
set_option maxRecDepth 100000 in
set_option maxHeartbeats 1000000 in
theorem bitS_any (n i : Nat) (w : World) (hi : i < 512) :
    Calls Tryd.prog 68 #[.agg (nums .u64 (w8 n)), .int .i64 i] w fun e w' => e = .returned (.int .u64 ((n / 2 ^ i % 2 : Nat) : Int)) ∧ Below w.heap.size w w' := by
  have HD := Lib.hid (div_bit n i)
  have hw := wd_lt n (i / 64)
  have h0 : (nums .u64 (w8 n))[i / 64]? = some (.int .u64 ((wd n (i / 64) : Nat) : Int)) := by
    rw [nums_get .u64 _ (i / 64) (by rw [w8n_len]; omega), w8n_get n (i / 64) (by omega)]
  have e1 : (i : Int) / 64 = ((i / 64 : Nat) : Int) := by omega
  have e2 : (i : Int) % 64 = ((i % 64 : Nat) : Int) := by omega
  have hq : ((i / 64 : Nat) : Int) < 8 := by omega
  have hr : ((i % 64 : Nat) : Int) < 64 := by omega
  have hi0 : (0 : Int) ≤ (i : Int) := by omega
  generalize i / 64 = q at *
  generalize i % 64 = r at *
  generalize wd n q = x at *
  have h1 : bits .and .u64 ((x : Int) / 2 ^ r) 1 = ((x / 2 ^ r % 2 : Nat) : Int) := by
    rw [show (x : Int) / 2 ^ r = ((x / 2 ^ r : Nat) : Int) by simp]
    exact and1N (x / 2 ^ r) (Nat.lt_of_le_of_lt (Nat.div_le_self _ _) hw)
  obtain ⟨m, hm⟩ : ∃ m, x / 2 ^ r % 2 = m := ⟨_, rfl⟩
  rw [hm] at h1 HD
  clear hw hm
  go_enter Tryd.func68, Tryd.ntmps68
  go_wp2_with fail
  go_ret
  exact ⟨by rw [← HD.out]; rfl, (Below.refl _ w).alloc (Nat.le_refl _) _⟩
set_option maxRecDepth 100000 in
set_option maxHeartbeats 1000000 in
theorem mulWordS_any (a b c d lo hi : Nat) (w : World) (ha : a < 18446744073709551616) (hb : b < 18446744073709551616) (hc : c < 18446744073709551616) (hd : d < 18446744073709551616) (hl : lo < 18446744073709551616) (h : a * b + c + d = lo + 18446744073709551616 * hi) :
    Calls Tryd.prog 85 #[.int .u64 a, .int .u64 b, .int .u64 c, .int .u64 d] w fun e w' => e = .returned (.tuple #[.int .u64 (lo : Int), .int .u64 (hi : Int)]) ∧ w' = w := by
  have hm := mul_lt64 ha hb
  have M := Lib.hid (mul64_any a b ha hb w)
  obtain ⟨p, hp⟩ : ∃ p, a * b = p := ⟨_, rfl⟩
  rw [hp] at hm h M
  obtain ⟨l1, hl1⟩ : ∃ x, p % 18446744073709551616 = x := ⟨_, rfl⟩
  obtain ⟨h1, hh1⟩ : ∃ x, p / 18446744073709551616 = x := ⟨_, rfl⟩
  rw [hl1, hh1] at M
  obtain ⟨s1, hs1⟩ : ∃ x, (l1 + c) % 18446744073709551616 = x := ⟨_, rfl⟩
  obtain ⟨c1, hc1⟩ : ∃ x, (l1 + c) / 18446744073709551616 = x := ⟨_, rfl⟩
  obtain ⟨c2, hc2⟩ : ∃ x, (s1 + d) / 18446744073709551616 = x := ⟨_, rfl⟩
  have A1 := Lib.hid (fun w => add64_0 l1 c s1 c1 (by omega) (by omega) w)
  have A2 := Lib.hid (fun w => add64_0 s1 d lo c2 (by omega) (by omega) w)
  have W1 := Lib.hid (show IntKind.u64.wrap ((h1 : Int) + c1) = ((h1 + c1 : Nat) : Int) by rw [IntKind.wrap_u64]; omega)
  have W2 := Lib.hid (show IntKind.u64.wrap (((h1 + c1 : Nat) : Int) + c2) = (hi : Int) by rw [IntKind.wrap_u64]; omega)
  generalize h1 + c1 = h2 at W1 W2
  clear ha hb hc hd hl h hm hp hl1 hh1 hs1 hc1 hc2
  go_enter Tryd.func85, Tryd.ntmps85
  go_wp2_with fail
  refine M.out.mono ?_
  rintro e w' ⟨rfl, hw⟩
  rw [hw]
  have w1 := W1.out
  have w2 := W2.out
  have a1 := A1.out
  have a2 := A2.out
  go_wp2
  go_ret2
  exact ⟨rfl, rfl⟩
end Go.Proofs.YtlpchgoaoglhcaaDoor
namespace Go.Proofs.YtlpchgoaoglhcaaDoor
open Go.RowKit
theorem pr_of (c : Nat) (hc : c < 115792089237316195423570985008687907853269984665640564039457584007913129639936) : Pr (w8 c) 0 c :=
  ⟨w8n_len c, w8_lt c, fun k hk => by
    rw [w8_w4 c hc, List.getD_eq_getElem?_getD, List.getElem?_append_right (by rw [w4_len]; omega), w4_len]
    match k, hk with
    | k + 4, _ =>
      rw [Nat.add_sub_cancel]
      match k with
      | 0 => rfl
      | 1 => rfl
      | 2 => rfl
      | 3 => rfl
      | _ + 4 => rfl, nv_w8 c (by omega)⟩
theorem ma_next (c n m i : Nat) : c + n % 18446744073709551616 ^ i * m + 18446744073709551616 ^ i * (wd n i * m) = c + n % 18446744073709551616 ^ (i + 1) * m := by
  rw [Nat.add_assoc, pr_next]
set_option maxRecDepth 100000 in
set_option maxHeartbeats 1000000 in
theorem mulAddS_any (n m c0 : Nat) (w : World) (hn : n < 115792089237316195423570985008687907853269984665640564039457584007913129639936) (hm : m < 115792089237316195423570985008687907853269984665640564039457584007913129639936) (hc0 : c0 < 115792089237316195423570985008687907853269984665640564039457584007913129639936) :
    Calls Tryd.prog 65 #[.agg (nums .u64 (w8 n)), .agg (nums .u64 (w8 m)), .agg (nums .u64 (w8 c0))] w fun e w' => e = .returned (.agg (nums .u64 (w8 (n * m + c0)))) ∧ Below w.heap.size w w' := by
  have HNL := Lib.hid hn
  have HML := Lib.hid hm
  have HCL := Lib.hid hc0
  have hz := zV
  clear hn hm hc0
  go_enter Tryd.func65, Tryd.ntmps65
  go_upto_region 1 with fail
  generalize hW1 : World.alloc _ _ = W1
  obtain ⟨N, hN⟩ : ∃ n, w.heap.size = n := ⟨_, rfl⟩
  have HR := Lib.hid (show RW W1 N .u64 98 (w8 n) ∧ RW W1 (N + 1) .u64 98 (w8 m) ∧ RW W1 (N + 1 + 1) .u64 98 (w8 c0) ∧ RW W1 (N + 1 + 1 + 1) .u64 98 (zer 8) ∧ Below N w W1 by
    subst hW1; rw [← hN]
    have h3 := alloc3_at w (.cells (nums .u64 (w8 n)) 98) (.cells (nums .u64 (w8 m)) 98) (.cells (nums .u64 (w8 c0)) 98)
    have hsz : (((w.alloc (.cells (nums .u64 (w8 n)) 98)).alloc (.cells (nums .u64 (w8 m)) 98)).alloc (.cells (nums .u64 (w8 c0)) 98)).heap.size = w.heap.size + 1 + 1 + 1 := by simp
    refine ⟨(Go.heap_alloc_old _ _ (by rw [hsz]; omega)).trans h3.1, (Go.heap_alloc_old _ _ (by rw [hsz]; omega)).trans h3.2.1, (Go.heap_alloc_old _ _ (by rw [hsz]; omega)).trans h3.2.2, ?_, (Below.alloc3 w _ _ _).alloc (by rw [hsz]; omega) _⟩
    rw [← hsz]; exact Go.heap_alloc_new _ _)
  have HR1 := Lib.hid HR.out.1
  have HR2 := Lib.hid HR.out.2.1
  have HR3 := Lib.hid HR.out.2.2.1
  have HR4 := Lib.hid HR.out.2.2.2.1
  have HB1 := Lib.hid HR.out.2.2.2.2
  have HN := Lib.hid hN
  rw [hN]
  clear hW1 hN hz HR
  go_wp2_with fail
  go_loopw [14] (fun iv wr => ∃ (i : Nat) (p : List Nat), iv = .int .i64 i ∧ i ≤ 4 ∧ Pr p i (c0 + n % 18446744073709551616 ^ i * m) ∧ RW wr N .u64 98 (w8 n) ∧ RW wr (N + 1) .u64 98 (w8 m) ∧ RW wr (N + 1 + 1) .u64 98 p ∧ RW wr (N + 1 + 1 + 1) .u64 98 (zer 8) ∧ Below N w wr) (fun i _ => 4 - (intOf i).toNat)
  case atStart => exact ⟨0, w8 c0, rfl, Nat.zero_le _, by rw [Nat.pow_zero, Nat.mod_one, Nat.zero_mul, Nat.add_zero]; exact pr_of c0 HCL.out, HR1.out, HR2.out, HR3.out, HR4.out, HB1.out⟩
  case round =>
    obtain ⟨i, p, rfl, hi, hpr, hr1, hr2, hr4, hr3, hbel⟩ := hrel
    have HPR := Lib.hid hpr
    have HA1 := Lib.hid hr1
    have HA2 := Lib.hid hr2
    have HA3 := Lib.hid hr3
    have HA4 := Lib.hid hr4
    have HBE := Lib.hid hbel
    clear hpr hr1 hr2 hr3 hr4 hbel HR1 HR2 HR3 HR4 HB1
    by_cases hlt : i < 4
    · have hlt' : (i : Int) < 4 := by omega
      have hi0 : (0 : Int) ≤ (i : Int) := by omega
      have HXL := Lib.hid (show wd n i < 18446744073709551616 from Nat.mod_lt _ (by decide))
      have HNX := Lib.hid (ma_next c0 n m i)
      have HWI := Lib.hid (w8n_get n i (by omega))
      obtain ⟨x, hx⟩ : ∃ x, wd n i = x := ⟨_, rfl⟩
      rw [hx] at HXL HNX HWI
      have c1 := HA1.out.cell (i := i) (by rw [w8n_len]; omega)
      rw [HWI.out] at c1
      clear hx
      go_wp2_with fail
      go_loopw [9, 21] (fun ov jv wr => ∃ (j c : Nat) (p : List Nat), jv = .int .i64 j ∧ ov = .int .u64 c ∧ j ≤ 4 ∧ Pj p i j c (c0 + n % 18446744073709551616 ^ i * m + 18446744073709551616 ^ i * (x * (m % 18446744073709551616 ^ j))) ∧ RW wr N .u64 98 (w8 n) ∧ RW wr (N + 1) .u64 98 (w8 m) ∧ RW wr (N + 1 + 1) .u64 98 p ∧ RW wr (N + 1 + 1 + 1) .u64 98 (zer 8) ∧ Below N w wr) (fun _ j _ => 4 - (intOf j).toNat)
      case atStart => exact ⟨0, 0, p, rfl, rfl, Nat.zero_le _, by rw [Nat.pow_zero, Nat.mod_one, Nat.mul_zero, Nat.mul_zero, Nat.add_zero]; exact Pj.start HPR.out i rfl, HA1.out, HA2.out, HA4.out, HA3.out, HBE.out⟩
      case round =>
        obtain ⟨j, c, p', rfl, rfl, hj, hpj, hr1, hr2, hr4, hr3, hbel⟩ := hrel
        have HPJ := Lib.hid hpj
        have HD1 := Lib.hid hr1
        have HD2 := Lib.hid hr2
        have HD3 := Lib.hid hr3
        have HD4 := Lib.hid hr4
        have HDE := Lib.hid hbel
        clear hpj hr1 hr2 hr3 hr4 hbel HA1 HA2 HA3 HA4 HBE c1
        by_cases hlt2 : j < 4
        · have hlt2' : (j : Int) < 4 := by omega
          have hj0 : (0 : Int) ≤ (j : Int) := by omega
          have i1 : IntKind.i64.wrap ((i : Int) + (j : Int)) = (i : Int) + (j : Int) := by rw [IntKind.wrap_i64]; omega
          have i2 : (0 : Int) ≤ (i : Int) + (j : Int) := by omega
          have i3 : (i : Int) + (j : Int) < 8 := by omega
          have i4 : ((i : Int) + (j : Int)).toNat = i + j := by omega
          have c2 := HD2.out.cell (i := j) (by rw [w8n_len]; omega)
          rw [w8n_get m j (by omega)] at c2
          have hyl : wd m j < 18446744073709551616 := Nat.mod_lt _ (by decide)
          have HNY := Lib.hid (pj_next x m j (18446744073709551616 ^ i) (c0 + n % 18446744073709551616 ^ i * m))
          obtain ⟨y, hy⟩ : ∃ y, wd m j = y := ⟨_, rfl⟩
          rw [hy] at c2 hyl HNY
          have hol := HPJ.out.lt (i + j)
          have hcl := HPJ.out.over
          have c3 := HD4.out.cell (i := i + j) (by rw [HPJ.out.len]; omega)
          obtain ⟨o, ho⟩ : ∃ o, p'.getD (i + j) 0 = o := ⟨_, rfl⟩
          rw [ho] at hol c3
          obtain ⟨q, hq⟩ : ∃ q, x * y = q := ⟨_, rfl⟩
          have hm := mul_lt64 HXL.out hyl
          rw [hq] at hm
          obtain ⟨lo, hlo⟩ : ∃ z, (q + o + c) % 18446744073709551616 = z := ⟨_, rfl⟩
          obtain ⟨hi', hhi⟩ : ∃ z, (q + o + c) / 18446744073709551616 = z := ⟨_, rfl⟩
          have HMW := Lib.hid (fun w => mulWordS_any x y o c lo hi' w HXL.out hyl hol hcl (by omega) (by rw [hq]; omega))
          have HST := Lib.hid (HPJ.out.step hlt hlt2 (lo := lo) (hi := hi') (a := x) (b := y) (by omega) (by omega) (by rw [ho, hq]; omega))
          rw [Nat.pow_add, HNY.out] at HST
          have f3 := HD4.out.frozen (i + j)
          clear hy hyl hol hcl ho hm hq hlo hhi HNY
          go_wp2_with fail
          refine (HMW.out _).mono ?_
          rintro e w' ⟨rfl, hw⟩
          rw [hw]
          go_wp2_with fail
          go_roundw
          case rel => exact ⟨j + 1, hi', _, rfl, rfl, hlt2, HST.out, HD1.out.other (setCell_other _ (by omega)), HD2.out.other (setCell_other _ (by omega)), HD4.out.set lo, HD3.out.other (setCell_other _ (by omega)), HDE.out.setCell (p := ⟨(N + 1 + 1), i + j, none⟩) (by show N ≤ N + 1 + 1; omega) _⟩
          case measure => simp [intOf]; omega
        · have hlt2' : ¬ (j : Int) < 4 := by omega
          obtain rfl : j = 4 := by omega
          have i1 : IntKind.i64.wrap ((i : Int) + 4) = (i : Int) + 4 := by rw [IntKind.wrap_i64]; omega
          have i2 : (0 : Int) ≤ (i : Int) + 4 := by omega
          have i3 : (i : Int) + 4 < 8 := by omega
          have i4 : ((i : Int) + 4).toNat = i + 4 := by omega
          have HPN := Lib.hid (show Pr (p'.set (i + 4) c) (i + 1) (c0 + n % 18446744073709551616 ^ (i + 1) * m) by
            rw [← HNX.out]
            have := HPJ.out.done hlt
            rw [show m % 18446744073709551616 ^ 4 = m from Nat.mod_eq_of_lt HML.out] at this
            exact this)
          have c2 := HD4.out.cell (i := i + 4) (by rw [HPJ.out.len]; omega)
          have f2 := HD4.out.frozen (i + 4)
          generalize p'.getD (i + 4) 0 = o at c2
          go_wp2_with fail
          go_roundw
          case rel => exact ⟨i + 1, _, rfl, hlt, HPN.out, HD1.out.other (setCell_other _ (by omega)), HD2.out.other (setCell_other _ (by omega)), HD4.out.set c, HD3.out.other (setCell_other _ (by omega)), HDE.out.setCell (p := ⟨(N + 1 + 1), i + 4, none⟩) (by show N ≤ N + 1 + 1; omega) _⟩
          case measure => simp [intOf]; omega
    · have hlt' : ¬ (i : Int) < 4 := by omega
      obtain rfl : i = 4 := by omega
      have HV := Lib.hid (show p = w8 (n * m + c0) from w8_of p _ HPR.out.len HPR.out.lt (by
        rw [HPR.out.val, show n % 18446744073709551616 ^ 4 = n from Nat.mod_eq_of_lt HNL.out, Nat.add_comm]))
      have HS8 := Lib.hid (sV p HPR.out.len)
      have HO := Lib.hid (show (nums .u64 (zer 8)).size = (nums .u64 p).size by rw [size_nums, size_nums, zer_len, HPR.out.len])
      go_wp2_with (first
        | (refine wpList_load_row rfl 98 _ rfl (N + 1 + 1) rfl 98 (nums .u64 p) (0, 0) _ HA4.out Tryd.underlying98 rfl HS8.out ?_)
        | (refine wpList_store_row rfl 98 _ _ rfl (N + 1 + 1 + 1) (nums .u64 p) rfl rfl 98 _ HA3.out HS8.out HO.out (nums_one _ _) ?_)
        )
      refine bodyPost_ret (results_cell_row (by rfl) _ _ (N + 1 + 1 + 1) 98 (nums .u64 p) (0, 0) _ (by rfl) (setRow_heap _ _ _ _ _ _ HA3.out) Tryd.underlying98 rfl HS8.out) rfl ⟨by rw [HV.out], ?_⟩
      rw [HN.out]
      exact Below.setRow HBE.out (by omega) _
end Go.Proofs.YtlpchgoaoglhcaaDoor
namespace Go.Proofs.YtlpchgoaoglhcaaDoor
open Go.RowKit
theorem run_allocS (a : Act) (o : Oper) (ho : o.op = .alloc 97) (w : World) : (execOp a.eval o).run Tryd.prog w = .ok (.value (.pointer (some ⟨w.heap.size, 0, none⟩))) (w.alloc (.cells (nums .u64 (zer 4)) 97)) := by
  have hz := zS
  unfold execOp
  simp only [ho]
  simp [go_sem, Instr.alloc, hz, Value.cells]
theorem setRow_belowX {w : World} {b : Nat} (B : Nat) (cs : Array Value) : BelowX B b w (w.setRow b cs) :=
  ⟨rfl, rfl, rfl, by rw [setRow_size]; exact Nat.le_refl _, fun k _ h => setRow_other _ _ _ _ h⟩
theorem BelowX.mono {B C b : Nat} {u v : World} (h : BelowX B b u v) (hc : C ≤ B) : BelowX C b u v := ⟨h.os, h.tape, h.output, h.size, fun k hk => h.block k (by omega)⟩
theorem BelowX.of {B b : Nat} {u v : World} (h : Below B u v) : BelowX B b u v := ⟨h.os, h.tape, h.output, h.size, fun k hk _ => h.block k hk⟩
theorem BelowX.drew {B b : Nat} {u v : World} (h : BelowX B b u v) : BelowX B b u v.drew := ⟨h.os, h.tape, h.output, h.size, h.block⟩
set_option maxRecDepth 100000 in
set_option maxHeartbeats 1000000 in
theorem stepS_any (v b M : Nat) (w : World) (hv : v < 7237005577332262213973186563042994240857116359379907606001950938285454250989) (hb : b ≤ 1) (h : RW w M .u64 97 (w4 v)) :
    Calls Tryd.prog 67 #[.pointer (some ⟨M, 0, none⟩), .int .u64 b] w fun e w' => e = .returned (.tuple #[]) ∧ RW w' M .u64 97 (w4 ((2 * v + b) % 7237005577332262213973186563042994240857116359379907606001950938285454250989)) ∧ BelowX w.heap.size M w w' := by
  have HF := Lib.hid (dbl4 v b hb (by omega))
  have HB0 := Lib.hid hb
  have HR1 := Lib.hid (show RW w M .u64 97 ((List.range 0).map (adt b (w4 v) (w4 v)) ++ (w4 v).drop 0) from h)
  have HOR := Lib.hid (fun w => orderS_any w)
  obtain ⟨d, hd⟩ : ∃ d, 2 * v + b = d := ⟨_, rfl⟩
  have HDL := Lib.hid (show d < 2 * 7237005577332262213973186563042994240857116359379907606001950938285454250989 by omega)
  rw [hd] at HF ⊢
  have HSD := Lib.hid (sS d)
  have hz := zS
  clear hd hv h hb
  go_enter Tryd.func67, Tryd.ntmps67
  go_wp2_with fail
  go_loopw [4, 11] (fun cv iv wr => ∃ (k : Nat), iv = .int .i64 k ∧ cv = .int .u64 ((adb b (w4 v) (w4 v) k : Nat) : Int) ∧ k ≤ 4 ∧ RW wr M .u64 97 ((List.range k).map (adt b (w4 v) (w4 v)) ++ (w4 v).drop k) ∧ BelowX w.heap.size M w wr) (fun _ i _ => 4 - (intOf i).toNat)
  case atStart => exact ⟨0, rfl, rfl, Nat.zero_le _, HR1.out, BelowX.refl _ _ _⟩
  case round =>
    obtain ⟨k, rfl, rfl, hk, hr1, hbel⟩ := hrel
    have HA1 := Lib.hid hr1
    have HBE := Lib.hid hbel
    clear hr1 hbel HR1
    by_cases hlt : k < 4
    · have hlt' : (k : Int) < 4 := by omega
      have c1 := HA1.out.cell (i := k) (by rw [fillw_len _ _ _ (w4_len v) hk]; exact hlt)
      rw [fillw_get] at c1
      have hC := adb_le b (w4 v) (w4 v) HB0.out (w4_lt v) (w4_lt v) k
      have HA := Lib.hid (fun w => add64 ((w4 v).getD k 0) ((w4 v).getD k 0) (adb b (w4 v) (w4 v) k) (adt b (w4 v) (w4 v) k) (adb b (w4 v) (w4 v) (k + 1)) hC (by simp only [adt, adb]; omega) (Nat.mod_lt _ (by decide)) w)
      have HS := Lib.hid (fillw (adt b (w4 v) (w4 v)) (w4 v) k (w4_len v) hlt)
      obtain ⟨s, hs⟩ : ∃ s, adt b (w4 v) (w4 v) k = s := ⟨_, rfl⟩
      obtain ⟨c', hcc⟩ : ∃ s, adb b (w4 v) (w4 v) (k + 1) = s := ⟨_, rfl⟩
      obtain ⟨x, hx⟩ : ∃ s, (w4 v).getD k 0 = s := ⟨_, rfl⟩
      rw [hs, hcc, hx] at HA
      rw [hs] at HS
      rw [hx] at c1
      generalize adb b (w4 v) (w4 v) k = cc at HA
      have HCC := Lib.hid hcc
      have ha := HA.out
      have f1 := HA1.out.frozen k
      clear hC hs hcc hx
      go_wp2_with fail
      go_region
      go_wp2_with fail
      go_region
      go_wp2
      go_roundw
      case rel => exact ⟨k + 1, rfl, by rw [HCC.out], hlt, by rw [← HS.out]; exact HA1.out.set s, ((HBE.out.trans (BelowX.set1 _ _ _)).drew).drew⟩
      case measure => simp [intOf]; omega
    · have hlt' : ¬ (k : Int) < 4 := by omega
      have h1 := HA1.out
      rw [show k = 4 by omega, HF.out, List.drop_eq_nil_of_le (by rw [w4_len]; exact Nat.le_refl _), List.append_nil] at h1
      have HA := Lib.hid h1
      clear h1 HA1 HF
      by_cases hdl : d < 7237005577332262213973186563042994240857116359379907606001950938285454250989
      · obtain ⟨r, hr⟩ : ∃ r, d + 115792089237316195423570985008687907853269984665640564039457584007913129639936 - 7237005577332262213973186563042994240857116359379907606001950938285454250989 = r := ⟨_, rfl⟩
        have HMI := Lib.hid (fun w => minusS_any d 7237005577332262213973186563042994240857116359379907606001950938285454250989 r 1 w (by omega) (by decide) (by omega) (by omega) (by decide))
        have HSR := Lib.hid (sS r)
        have HV := Lib.hid (show d = d % 7237005577332262213973186563042994240857116359379907606001950938285454250989 from (Nat.mod_eq_of_lt hdl).symm)
        clear hr hdl
        go_wp2_with fail
        refine wp_region_upA 9 7 8 [0, 1, 2, 3, 4, 5, 6, 7] _ (.cells (nums .u64 (zer 4)) 97) (by kernel_rfl) (by kernel_rfl) (fun _ _ dst _ _ h => by cases dst <;> exact h) rfl (fun a w K hK => wpOp_of_run rfl rfl (run_allocS a _ rfl w) hK) rfl ?_
        simp only [List.take_succ_cons, List.take_zero, List.drop_succ_cons, List.drop_zero, List.eraseIdx_cons_succ, List.eraseIdx_cons_zero]
        refine upW_val (by rfl) (by rfl) (by rfl) ?_
        intro K hK
        go_big_quiet_op
        refine hK _ ?_
        refine upW_late (by rfl) (.pointer (some ⟨M, 0, none⟩)) (fun _ => rfl) ?_
        simp only [Act.put, List.setIfInBounds_toArray, List.set]
        refine upW_val (by rfl) (by rfl) (by rfl) (fun K hK => quiet_load_row _ _ rfl M rfl 97 _ (0, 0) _ HA.out Tryd.underlying97 rfl HSD.out (hK _ ?_))
        simp only [Act.put, List.setIfInBounds_toArray, List.set]
        refine upW_call (by rfl) (by rfl) (.agg (nums .u64 (w4 7237005577332262213973186563042994240857116359379907606001950938285454250989))) _ rfl (by simp) (fun p => ?_) ?_
        · go_big_quiet_op
          exact ⟨_, fun q => Calls.ext_of (HOR.out q.x), rfl⟩
        simp only [Act.put, List.setIfInBounds_toArray, List.set]
        refine upW_call (by rfl) (by rfl) (.tuple #[.agg (nums .u64 (w4 r)), .int .u64 1]) _ rfl (by simp) (fun p => ?_) ?_
        · go_big_quiet_op
          exact ⟨_, fun q => Calls.ext_of (HMI.out q.x), rfl⟩
        simp only [Act.put, List.setIfInBounds_toArray, List.set]
        refine upW_val (by rfl) (by rfl) (by rfl) ?_
        intro K hK
        go_big_quiet_op
        refine hK _ ?_
        refine upW_late (by rfl) (.agg (nums .u64 (w4 r))) (fun _ => rfl) ?_
        simp only [Act.put, List.setIfInBounds_toArray, List.set]
        refine upW_late (by rfl) (.int .u64 1) (fun _ => rfl) ?_
        simp only [Act.put, List.setIfInBounds_toArray, List.set]
        refine upW_nil (fun Q wm hM hbm hom => ?_)
        simp only [List.setIfInBounds_toArray]
        have HOM := Lib.hid hom
        have HQM := Lib.hid (Nat.lt_of_lt_of_le HA.out.lt hM)
        have HN1 := Lib.hid (HA.out.ext hbm)
        have HB1 := Lib.hid (show BelowX w.heap.size M w wm from HBE.out.trans (BelowX.of (hbm.mono HBE.out.size)))
        have HQS := Lib.hid (show w.heap.size ≤ Q from Nat.le_trans HBE.out.size hM)
        clear hom hbm hM HA HBE
        go_wp2_with (refine wpList_store_row rfl 97 _ _ rfl Q (nums .u64 (w4 r)) rfl rfl 97 _ HOM.out HSR.out ?hold (nums_one _ _) (Stop.out ?_))
        case hold => rw [size_nums, size_nums, zer_len]; rfl
        generalize hWS : World.setRow _ _ _ = ws
        have H1 := Lib.hid (show RW ws M .u64 97 (w4 d) by subst hWS; exact HN1.out.other (setRow_other _ _ _ _ (by have := HQM.out; omega)))
        have H3 := Lib.hid (show RW ws Q .u64 97 (w4 r) by subst hWS; exact setRow_heap _ _ _ _ _ _ HOM.out)
        have HB3 := Lib.hid (show BelowX w.heap.size M w ws by subst hWS; exact HB1.out.trans ⟨rfl, rfl, rfl, by rw [setRow_size]; exact Nat.le_refl _, fun k hk _ => setRow_other _ _ _ _ (by have := HQS.out; omega)⟩)
        clear hWS HN1 HOM HB1
        refine ⟨?_⟩
        go_wp2_with fail
        exact ⟨rfl, _, results_none rfl _ _ _, rfl, HV.out ▸ H1.out, HB3.out⟩
      · obtain ⟨r, hr⟩ : ∃ r, d - 7237005577332262213973186563042994240857116359379907606001950938285454250989 = r := ⟨_, rfl⟩
        have HMI := Lib.hid (fun w => minusS_any d 7237005577332262213973186563042994240857116359379907606001950938285454250989 r 0 w (by have := HDL.out; omega) (by decide) (by have := HDL.out; omega) (by have := HDL.out; omega) (by decide))
        have HSR := Lib.hid (sS r)
        have HV := Lib.hid (show r = d % 7237005577332262213973186563042994240857116359379907606001950938285454250989 by have := HDL.out; omega)
        clear hr hdl
        go_wp2_with fail
        refine wp_region_upA 9 7 8 [0, 1, 2, 3, 4, 5, 6, 7] _ (.cells (nums .u64 (zer 4)) 97) (by kernel_rfl) (by kernel_rfl) (fun _ _ dst _ _ h => by cases dst <;> exact h) rfl (fun a w K hK => wpOp_of_run rfl rfl (run_allocS a _ rfl w) hK) rfl ?_
        simp only [List.take_succ_cons, List.take_zero, List.drop_succ_cons, List.drop_zero, List.eraseIdx_cons_succ, List.eraseIdx_cons_zero]
        refine upW_val (by rfl) (by rfl) (by rfl) ?_
        intro K hK
        go_big_quiet_op
        refine hK _ ?_
        refine upW_late (by rfl) (.pointer (some ⟨M, 0, none⟩)) (fun _ => rfl) ?_
        simp only [Act.put, List.setIfInBounds_toArray, List.set]
        refine upW_val (by rfl) (by rfl) (by rfl) (fun K hK => quiet_load_row _ _ rfl M rfl 97 _ (0, 0) _ HA.out Tryd.underlying97 rfl HSD.out (hK _ ?_))
        simp only [Act.put, List.setIfInBounds_toArray, List.set]
        refine upW_call (by rfl) (by rfl) (.agg (nums .u64 (w4 7237005577332262213973186563042994240857116359379907606001950938285454250989))) _ rfl (by simp) (fun p => ?_) ?_
        · go_big_quiet_op
          exact ⟨_, fun q => Calls.ext_of (HOR.out q.x), rfl⟩
        simp only [Act.put, List.setIfInBounds_toArray, List.set]
        refine upW_call (by rfl) (by rfl) (.tuple #[.agg (nums .u64 (w4 r)), .int .u64 0]) _ rfl (by simp) (fun p => ?_) ?_
        · go_big_quiet_op
          exact ⟨_, fun q => Calls.ext_of (HMI.out q.x), rfl⟩
        simp only [Act.put, List.setIfInBounds_toArray, List.set]
        refine upW_val (by rfl) (by rfl) (by rfl) ?_
        intro K hK
        go_big_quiet_op
        refine hK _ ?_
        refine upW_late (by rfl) (.agg (nums .u64 (w4 r))) (fun _ => rfl) ?_
        simp only [Act.put, List.setIfInBounds_toArray, List.set]
        refine upW_late (by rfl) (.int .u64 0) (fun _ => rfl) ?_
        simp only [Act.put, List.setIfInBounds_toArray, List.set]
        refine upW_nil (fun Q wm hM hbm hom => ?_)
        simp only [List.setIfInBounds_toArray]
        have HOM := Lib.hid hom
        have HQM := Lib.hid (Nat.lt_of_lt_of_le HA.out.lt hM)
        have HN1 := Lib.hid (HA.out.ext hbm)
        have HB1 := Lib.hid (show BelowX w.heap.size M w wm from HBE.out.trans (BelowX.of (hbm.mono HBE.out.size)))
        have HQS := Lib.hid (show w.heap.size ≤ Q from Nat.le_trans HBE.out.size hM)
        clear hom hbm hM HA HBE
        go_wp2_with (refine wpList_store_row rfl 97 _ _ rfl Q (nums .u64 (w4 r)) rfl rfl 97 _ HOM.out HSR.out ?hold (nums_one _ _) (Stop.out ?_))
        case hold => rw [size_nums, size_nums, zer_len]; rfl
        generalize hWS : World.setRow _ _ _ = ws
        have H1 := Lib.hid (show RW ws M .u64 97 (w4 d) by subst hWS; exact HN1.out.other (setRow_other _ _ _ _ (by have := HQM.out; omega)))
        have H3 := Lib.hid (show RW ws Q .u64 97 (w4 r) by subst hWS; exact setRow_heap _ _ _ _ _ _ HOM.out)
        have HB3 := Lib.hid (show BelowX w.heap.size M w ws by subst hWS; exact HB1.out.trans ⟨rfl, rfl, rfl, by rw [setRow_size]; exact Nat.le_refl _, fun k hk _ => setRow_other _ _ _ _ (by have := HQS.out; omega)⟩)
        clear hWS HN1 HOM HB1
        refine ⟨?_⟩
        have HO := Lib.hid (show (nums .u64 (w4 d)).size = (nums .u64 (w4 r)).size by rw [size_nums, size_nums, w4_len, w4_len])
        go_wp2_with (first
          | (refine wpList_load_row rfl 97 _ rfl Q rfl 97 (nums .u64 (w4 r)) (0, 0) _ H3.out Tryd.underlying97 rfl HSR.out ?_)
          | (refine wpList_store_row rfl 97 _ _ rfl M (nums .u64 (w4 r)) rfl rfl 97 _ H1.out HSR.out HO.out (nums_one _ _) (Stop.out ?_))
          )
        generalize hWS : World.setRow _ _ _ = wz
        have H4 := Lib.hid (show RW wz M .u64 97 (w4 r) by subst hWS; exact setRow_heap _ _ _ _ _ _ H1.out)
        have HB4 := Lib.hid (show BelowX w.heap.size M w wz by subst hWS; exact HB3.out.trans (setRow_belowX _ _))
        clear hWS H1 H3 HB3
        refine ⟨?_⟩
        go_wp2_with fail
        exact ⟨rfl, _, results_none rfl _ _ _, rfl, HV.out ▸ H4.out, HB4.out⟩
set_option maxRecDepth 100000 in
set_option maxHeartbeats 1000000 in
theorem pow512 (k : Nat) (h : k = 256 + 256) : 2 ^ k = 13407807929942597099574024998205846127479365820592393377723561443721764030073546976801874298166903427690031858186486050853753882811946569946433649006084096 := by
  obtain ⟨a, ha⟩ : ∃ a : Nat, a = 256 := ⟨_, rfl⟩
  rw [show k = a + a by omega, Nat.pow_add, ha]
theorem rest_top (n k : Nat) (hk : k = 512) (h : n < 13407807929942597099574024998205846127479365820592393377723561443721764030073546976801874298166903427690031858186486050853753882811946569946433649006084096) : n / 2 ^ k % 7237005577332262213973186563042994240857116359379907606001950938285454250989 = 0 := by
  rw [pow512 k (by omega), Nat.div_eq_of_lt h]
theorem bit_le (n k : Nat) : n / 2 ^ k % 2 ≤ 1 := by omega
set_option maxRecDepth 100000 in
set_option maxHeartbeats 1000000 in
theorem restS_any (n : Nat) (w : World) (hn : n < 13407807929942597099574024998205846127479365820592393377723561443721764030073546976801874298166903427690031858186486050853753882811946569946433649006084096) :
    Calls Tryd.prog 54 #[.agg (nums .u64 (w8 n))] w fun e w' => e = .returned (.agg (nums .u64 (w4 (n % 7237005577332262213973186563042994240857116359379907606001950938285454250989)))) ∧ Below w.heap.size w w' := by
  have HTOP := Lib.hid (fun k hk => rest_top n k hk hn)
  obtain ⟨K, hK⟩ : ∃ K : Nat, K = 512 := ⟨_, rfl⟩
  have HK := Lib.hid hK
  have HSN := Lib.hid (sV (w8 n) (w8n_len n))
  have hz := zS
  obtain ⟨x, hx⟩ : ∃ x, n % 7237005577332262213973186563042994240857116359379907606001950938285454250989 = x := ⟨_, rfl⟩
  have HX := Lib.hid hx
  rw [hx]
  clear hn hx hK
  go_enter Tryd.func54, Tryd.ntmps54
  go_upto_region 2 with fail
  generalize hW1 : World.alloc _ _ = W1
  obtain ⟨N, hN⟩ : ∃ n, w.heap.size = n := ⟨_, rfl⟩
  have HR1 := Lib.hid (show RW W1 N .u64 98 (w8 n) by subst hW1; rw [← hN]; exact (alloc3_at w _ _ _).1)
  have HR2 := Lib.hid (show RW W1 (N + 1) .u64 97 (zer 4) by subst hW1; rw [← hN]; exact (alloc3_at w _ _ _).2.1)
  have HR3 := Lib.hid (show RW W1 (N + 1 + 1) .u64 97 (w4 0) by subst hW1; rw [← hN]; exact (alloc3_at w _ _ _).2.2)
  have HB1 := Lib.hid (show Below N w W1 by subst hW1; rw [← hN]; exact Below.alloc3 w _ _ _)
  have HN := Lib.hid hN
  rw [hN]
  clear hW1 hN hz
  go_wp2_with fail
  go_loopw [5] (fun iv wr => ∃ (k : Nat), iv = .int .i64 ((k : Int) - 1) ∧ k ≤ 512 ∧ RW wr N .u64 98 (w8 n) ∧ RW wr (N + 1) .u64 97 (zer 4) ∧ RW wr (N + 1 + 1) .u64 97 (w4 (n / 2 ^ k % 7237005577332262213973186563042994240857116359379907606001950938285454250989)) ∧ Below N w wr) (fun i _ => (intOf i + 1).toNat)
  case atStart => exact ⟨K, by rw [HK.out]; rfl, Nat.le_of_eq HK.out, HR1.out, HR2.out, by rw [HTOP.out K HK.out]; exact HR3.out, HB1.out⟩
  case round =>
    obtain ⟨k, rfl, hk, h1, h2, h3, hbel⟩ := hrel
    have HA1 := Lib.hid h1
    have HA2 := Lib.hid h2
    have HA3 := Lib.hid h3
    have HBE := Lib.hid hbel
    clear h1 h2 h3 hbel HR1 HR2 HR3 HB1
    cases k with
    | zero =>
      have HH := Lib.hid (show RW wr (N + 1 + 1) .u64 97 (w4 x) by have := HA3.out; rw [Nat.pow_zero, Nat.div_one, HX.out] at this; exact this)
      have HSX := Lib.hid (sS x)
      have HO := Lib.hid (show (nums .u64 (zer 4)).size = (nums .u64 (w4 x)).size by rw [size_nums, size_nums, zer_len, w4_len])
      clear HA3
      go_wp2_with (first
        | (refine wpList_load_row rfl 97 _ rfl (N + 1 + 1) rfl 97 (nums .u64 (w4 x)) (0, 0) _ HH.out Tryd.underlying97 rfl HSX.out ?_)
        | (refine wpList_store_row rfl 97 _ _ rfl (N + 1) (nums .u64 (w4 x)) rfl rfl 97 _ HA2.out HSX.out HO.out (nums_one _ _) ?_)
        )
      refine bodyPost_ret (results_cell_row (by rfl) _ _ (N + 1) 97 (nums .u64 (w4 x)) (0, 0) _ (by rfl) (setRow_heap _ _ _ _ _ _ HA2.out) Tryd.underlying97 rfl HSX.out) rfl ⟨rfl, ?_⟩
      rw [HN.out]
      exact Below.setRow HBE.out (by omega) _
    | succ k =>
      have i0 : ((k + 1 : Nat) : Int) - 1 = (k : Int) := by omega
      rw [i0]
      have HBT := Lib.hid (fun w => bitS_any n k w (by omega))
      have HNB := Lib.hid (rest_bit n k 7237005577332262213973186563042994240857116359379907606001950938285454250989)
      have HBL := Lib.hid (bit_le n k)
      have HVL := Lib.hid (show n / 2 ^ (k + 1) % 7237005577332262213973186563042994240857116359379907606001950938285454250989 < 7237005577332262213973186563042994240857116359379907606001950938285454250989 from Nat.mod_lt _ (by decide))
      obtain ⟨b, hb⟩ : ∃ b, n / 2 ^ k % 2 = b := ⟨_, rfl⟩
      obtain ⟨v, hv⟩ : ∃ b, n / 2 ^ (k + 1) % 7237005577332262213973186563042994240857116359379907606001950938285454250989 = b := ⟨_, rfl⟩
      rw [hb] at HBT HNB HBL
      rw [hv] at HNB HVL HA3
      clear hb hv
      go_wp2_with (refine wpList_load_row rfl 98 _ rfl N rfl 98 (nums .u64 (w8 n)) (0, 0) _ HA1.out Tryd.underlying98 rfl HSN.out ?_)
      refine (HBT.out _).mono ?_
      rintro e2 w2 ⟨rfl, hb2⟩
      have HC1 := Lib.hid (HA1.out.ext hb2)
      have HC2 := Lib.hid (HA2.out.ext hb2)
      have HC3 := Lib.hid (HA3.out.ext hb2)
      have HCB := Lib.hid (HBE.out.trans (hb2.mono (show N ≤ _ by have := HA3.out.lt; omega)))
      clear hb2 HA1 HA2 HA3 HBE
      go_wp2_with fail
      refine (stepS_any v b (N + 1 + 1) _ HVL.out HBL.out HC3.out).mono ?_
      rintro e3 w3 ⟨rfl, hq, hqx⟩
      have HD1 := Lib.hid (HC1.out.belowX hqx (by omega))
      have HD2 := Lib.hid (HC2.out.belowX hqx (by omega))
      have HD3 := Lib.hid (show RW w3 (N + 1 + 1) .u64 97 (w4 (n / 2 ^ k % 7237005577332262213973186563042994240857116359379907606001950938285454250989)) by rw [← HNB.out]; exact hq)
      have HDB := Lib.hid (below_x HCB.out hqx (by omega) (by have := HC3.out.lt; omega))
      clear hq hqx HC1 HC2 HC3 HCB
      go_wp2_with fail
      go_roundw
      case rel => exact ⟨k, rfl, by omega, HD1.out, HD2.out, HD3.out, HDB.out⟩
      case measure => simp [intOf]
end Go.Proofs.YtlpchgoaoglhcaaDoor
namespace Go.Proofs.YtlpchgoaoglhcaaDoor
open Go.RowKit
/-- The bytes of a box, sliced whole. -/
theorem bys_box {w : World} {b : Nat} {t : TypeId} {l : List UInt8} (h : BT w b t l) (hl : l.length ≤ 100000) : Bys w (.slice (some ⟨b, 0, none⟩) l.length l.length) l :=
  ⟨_, _, rfl, ⟨Nat.le_refl _, by unfold maxLen; omega, fun h => by cases h⟩, .inr ⟨b, 0, rfl, h.lt, fun i hi => by
    have := h.cell hi
    rw [Nat.zero_add, this]
    simp [List.getD_eq_getElem?_getD, List.getElem?_eq_getElem hi]⟩⟩
theorem or_low8 (a b i : Nat) (ha : a < 2 ^ i) (hs : a + 2 ^ i * b < 18446744073709551616) : bits .or .u64 (a : Int) ((2 ^ i * b : Nat) : Int) = ((a + 2 ^ i * b : Nat) : Int) := by
  rw [(bits_nat .u64 64 (by decide) wraps_u64 a (2 ^ i * b) (by show a < 18446744073709551616; omega) (by show 2 ^ i * b < 18446744073709551616; omega)).2, Nat.or_comm, ← Nat.two_pow_add_eq_or_of_lt ha, Nat.add_comm]
set_option maxRecDepth 100000 in
set_option maxHeartbeats 1000000 in
theorem readS_any (v : Value) (l : List UInt8) (w : World) (hv : Bys w v l) :
    Calls Tryd.prog 53 #[v] w fun e w' => e = .returned (.agg (nums .u64 (w8 (le l % 13407807929942597099574024998205846127479365820592393377723561443721764030073546976801874298166903427690031858186486050853753882811946569946433649006084096)))) ∧ Below w.heap.size w w' := by
  have hz := zV
  obtain ⟨ao, cap, rfl, ⟨hlc, hcm, _⟩, hcell⟩ := hv
  obtain ⟨z, hzm⟩ : ∃ z, min l.length 64 = z := ⟨_, rfl⟩
  have HZL := Lib.hid (show z ≤ l.length ∧ z ≤ 64 by omega)
  have HFIN := Lib.hid (show le l % 256 ^ z = le l % 13407807929942597099574024998205846127479365820592393377723561443721764030073546976801874298166903427690031858186486050853753882811946569946433649006084096 by
    have h256 : (256 : Nat) ^ 64 = 13407807929942597099574024998205846127479365820592393377723561443721764030073546976801874298166903427690031858186486050853753882811946569946433649006084096 := by decide
    by_cases h : l.length ≤ 64
    · have hl := le_lt l
      rw [show z = l.length by omega, Nat.mod_eq_of_lt hl, Nat.mod_eq_of_lt]
      have := Nat.pow_le_pow_right (n := 256) (by decide) h
      rw [h256] at this
      exact Nat.lt_of_lt_of_le hl this
    · rw [show z = 64 by omega, h256])
  have HCELL := Lib.hid (show ∀ k, k < z → ∃ g off, ao = some ⟨g, off, none⟩ ∧ g < w.heap.size ∧ w.cell? ⟨g, off + k, none⟩ = some (.int .u8 ((le l / 256 ^ k % 256 : Nat) : Int)) from fun k hk => by
    rcases hcell with rfl | ⟨g, off, rfl, hg, hc⟩
    · simp at hzm; omega
    · have hkl : k < l.length := by omega
      refine ⟨g, off, rfl, hg, ?_⟩
      rw [hc k hkl, le_get, List.getD_eq_getElem?_getD, List.getElem?_eq_getElem hkl]
      rfl)
  obtain ⟨n, hn⟩ : ∃ n, le l = n := ⟨_, rfl⟩
  rw [hn] at HFIN HCELL ⊢
  obtain ⟨m, hm⟩ : ∃ m, n % 13407807929942597099574024998205846127479365820592393377723561443721764030073546976801874298166903427690031858186486050853753882811946569946433649006084096 = m := ⟨_, rfl⟩
  rw [hm] at HFIN ⊢
  obtain ⟨len, hlen⟩ : ∃ k, l.length = k := ⟨_, rfl⟩
  rw [hlen] at hlc hzm HZL ⊢
  have hmin : (if (len : Int) ≤ 64 then (len : Int) else 64) = (z : Int) := by split <;> omega
  have hmin2 : min (len : Int) 64 = (z : Int) := by omega
  have hzc : z ≤ cap := by omega
  have hzc' : (z : Int) ≤ (cap : Int) := by omega
  have hz0 : (0 : Int) ≤ (z : Int) := by omega
  have HZ64 := Lib.hid (show z ≤ 64 by omega)
  have HCM := Lib.hid hcm
  clear hn hm hlen hlc hcm hcell HZL
  go_enter Tryd.func53, Tryd.ntmps53
  go_upto_region 2 with fail
  generalize hW1 : World.alloc _ _ = W1
  obtain ⟨N, hN⟩ : ∃ n, w.heap.size = n := ⟨_, rfl⟩
  have HR2 := Lib.hid (show RW W1 N .u64 98 (zer 8) by subst hW1; rw [← hN]; exact (alloc2_at w _ _).1)
  have HR3 := Lib.hid (show RW W1 (N + 1) .u64 98 (w8 (n % 256 ^ 0)) by subst hW1; rw [← hN, Nat.pow_zero, Nat.mod_one]; exact (alloc2_at w _ _).2)
  have HB1 := Lib.hid (show Below N w W1 by subst hW1; rw [← hN]; exact ((Below.refl _ w).alloc (Nat.le_refl _) _).alloc (by simp) _)
  rw [hN] at HCELL
  have HN := Lib.hid hN
  rw [hN]
  clear hW1 hN hz
  go_wp2_with fail
  go_loopw [12] (fun iv wr => ∃ (k : Nat), iv = .int .i64 k ∧ k ≤ z ∧ RW wr N .u64 98 (zer 8) ∧ RW wr (N + 1) .u64 98 (w8 (n % 256 ^ k)) ∧ Below N w wr) (fun i _ => z - (intOf i).toNat)
  case atStart => exact ⟨0, rfl, Nat.zero_le _, HR2.out, HR3.out, HB1.out⟩
  case round =>
    obtain ⟨k, rfl, hk, hr2, hr3, hbel⟩ := hrel
    have HA2 := Lib.hid hr2
    have HA3 := Lib.hid hr3
    have HBE := Lib.hid hbel
    clear hr2 hr3 hbel HR2 HR3 HB1
    by_cases hlt : k < z
    · obtain ⟨g, off, rfl, hg, hc⟩ := HCELL.out k hlt
      have hlt' : (k : Int) < (z : Int) := by omega
      have hk0 : (0 : Int) ≤ (k : Int) := by omega
      have hk64 : k < 64 := by have := HZ64.out; omega
      have c1 : wr.cell? ⟨g, off + k, none⟩ = some (.int .u8 ((n / 256 ^ k % 256 : Nat) : Int)) := by rw [World.cell?_of_block (HBE.out.block g hg)]; exact hc
      have c2 := HA3.out.cell (i := k / 8) (by rw [w8n_len]; omega)
      rw [w8n_get _ (k / 8) (by omega)] at c2
      have HS := Lib.hid (from_set8 n k hk64)
      have hlo := from_low8 n k
      have hb : n / 256 ^ k % 256 < 256 := Nat.mod_lt _ (by decide)
      have e1 : (k : Int) / 8 = ((k / 8 : Nat) : Int) := by omega
      have e2 : (k : Int) % 8 = ((k % 8 : Nat) : Int) := by omega
      have hq : ((k / 8 : Nat) : Int) < 8 := by omega
      have hq0 : (0 : Int) ≤ ((k / 8 : Nat) : Int) := by omega
      have hr : k % 8 < 8 := by omega
      generalize k / 8 = q at e1 hq hq0 c2 HS hlo
      generalize k % 8 = r at e2 hr HS hlo
      generalize wd (n % 256 ^ k) q = x at c2 HS hlo
      generalize n / 256 ^ k % 256 = b at c1 HS hb hc
      obtain ⟨gg, hgg⟩ : ∃ g, 8 * r = g := ⟨_, rfl⟩
      rw [hgg] at HS hlo
      have j1 : (r : Int) * 8 = (gg : Int) := by omega
      have j2 : IntKind.i64.wrap (gg : Int) = (gg : Int) := by rw [IntKind.wrap_i64]; omega
      have j3 : (0 : Int) ≤ (gg : Int) := by omega
      have hpb : 2 ^ gg * b + 2 ^ gg ≤ 18446744073709551616 := by
        have h1 := Nat.pow_le_pow_right (n := 2) (by decide) (show gg ≤ 56 by omega)
        have h2 : 2 ^ gg * b + 2 ^ gg ≤ 2 ^ gg * 256 := by rw [← Nat.mul_succ]; exact Nat.mul_le_mul_left _ hb
        omega
      have hor := or_low8 x b gg hlo (by omega)
      have m1 : IntKind.u64.wrap (b : Int) = (b : Int) := by rw [IntKind.wrap_u64]; omega
      have m2 : IntKind.u64.wrap ((b : Int) * 2 ^ gg) = ((2 ^ gg * b : Nat) : Int) := by
        have e : (b : Int) * 2 ^ gg = ((2 ^ gg * b : Nat) : Int) := by rw [Nat.mul_comm]; simp
        rw [e, IntKind.wrap_u64]; omega
      obtain ⟨y, hy⟩ : ∃ y, 2 ^ gg * b = y := ⟨_, rfl⟩
      rw [hy] at hor m2 HS
      obtain ⟨s, hs⟩ : ∃ s, x + y = s := ⟨_, rfl⟩
      rw [hs] at hor HS
      have k2 := fun p => Ext.cell c2 p
      clear hs hy hgg hlo hb hpb hr hc
      go_wp2_with fail
      refine wp_region_up 12 12 (by kernel_rfl) (by kernel_rfl) (fun _ _ dst _ _ h => by cases dst <;> exact h) ?_
      simp only [List.take_succ_cons, List.take_zero, List.drop_succ_cons, List.drop_zero]
      refine upW_val (by rfl) (by rfl) (by rfl) ?_
      intro K hK
      go_big_quiet_op
      refine hK _ ?_
      refine upW_val (by rfl) (by rfl) (by rfl) ?_
      intro K hK
      go_big_quiet_op
      refine hK _ ?_
      refine upW_val (by rfl) (by rfl) (by rfl) ?_
      intro K hK
      go_big_quiet_op
      refine hK _ ?_
      refine upW_val (by rfl) (by rfl) (by rfl) ?_
      intro K hK
      go_big_quiet_op
      refine hK _ ?_
      refine upW_val (by rfl) (by rfl) (by rfl) ?_
      intro K hK
      go_big_quiet_op
      refine hK _ ?_
      refine upW_val (by rfl) (by rfl) (by rfl) ?_
      intro K hK
      go_big_quiet_op
      refine hK _ ?_
      refine upW_val (by rfl) (by rfl) (by rfl) ?_
      intro K hK
      go_big_quiet_op
      refine hK _ ?_
      refine upW_val (by rfl) (by rfl) (by rfl) ?_
      intro K hK
      go_big_quiet_op
      refine hK _ ?_
      refine upW_val (by rfl) (by rfl) (by rfl) ?_
      intro K hK
      go_big_quiet_op
      refine hK _ ?_
      refine upW_val (by rfl) (by rfl) (by rfl) ?_
      intro K hK
      go_big_quiet_op
      refine hK _ ?_
      refine upW_val (by rfl) (by rfl) (by rfl) ?_
      intro K hK
      go_big_quiet_op
      refine hK _ ?_
      refine upW_val (by rfl) (by rfl) (by rfl) ?_
      intro K hK
      go_big_quiet_op
      refine hK _ ?_
      refine upW_nil (fun wy hby => ?_)
      have HY2 := Lib.hid (HA2.out.ext hby)
      have HY3 := Lib.hid (HA3.out.ext hby)
      have HYB := Lib.hid (HBE.out.trans (hby.mono (show N ≤ _ by have := HA2.out.lt; omega)))
      have c3 := HY3.out.cell (i := q) (by rw [w8n_len]; omega)
      have f3 := HY3.out.frozen q
      clear hby c1 c2 k2
      go_wp2_with fail
      go_roundw
      case rel => exact ⟨k + 1, rfl, hlt, HY2.out.other (setCell_other _ (by omega)), by rw [← HS.out]; exact HY3.out.set s, HYB.out.setCell (p := ⟨N + 1, q, none⟩) (by show N ≤ N + 1; omega) _⟩
      case measure => simp [intOf]; omega
    · have hlt' : ¬ (k : Int) < (z : Int) := by omega
      have HS := Lib.hid (sV (w8 m) (w8n_len m))
      have HO := Lib.hid (show (nums .u64 (zer 8)).size = (nums .u64 (w8 m)).size by rw [size_nums, size_nums, zer_len, w8n_len])
      have h3 := HA3.out
      rw [show k = z by omega, HFIN.out] at h3
      have H3 := Lib.hid h3
      clear h3 HA3
      go_wp2_with (first
        | (refine wpList_load_row rfl 98 _ rfl (N + 1) rfl 98 (nums .u64 (w8 m)) (0, 0) _ H3.out Tryd.underlying98 rfl HS.out ?_)
        | (refine wpList_store_row rfl 98 _ _ rfl N (nums .u64 (w8 m)) rfl rfl 98 _ HA2.out HS.out HO.out (nums_one _ _) ?_)
        )
      refine bodyPost_ret (results_cell_row (by rfl) _ _ N 98 (nums .u64 (w8 m)) (0, 0) _ (by rfl) (setRow_heap _ _ _ _ _ _ HA2.out) Tryd.underlying98 rfl HS.out) rfl ⟨rfl, ?_⟩
      rw [HN.out]
      exact Below.setRow HBE.out (Nat.le_refl _) _
end Go.Proofs.YtlpchgoaoglhcaaDoor
namespace Go.Proofs.YtlpchgoaoglhcaaDoor
open Go.RowKit
theorem mod8 (n : Nat) (h : n < 115792089237316195423570985008687907853269984665640564039457584007913129639936) : n % 13407807929942597099574024998205846127479365820592393377723561443721764030073546976801874298166903427690031858186486050853753882811946569946433649006084096 = n := Nat.mod_eq_of_lt (by omega)
theorem sl32 (l : List UInt8) (hl : l.length = 32) {w : World} {b : Nat} {t : TypeId} (h : BT w b t l) : Bys w (.slice (some ⟨b, 0, none⟩) 32 32) l := by
  have := bys_box h (by omega)
  rwa [hl] at this
def oMul (a b c : Nat) : Nat := (a * b + c) % 7237005577332262213973186563042994240857116359379907606001950938285454250989
theorem mul_bound (a b c : Nat) (ha : a < 115792089237316195423570985008687907853269984665640564039457584007913129639936) (hb : b < 115792089237316195423570985008687907853269984665640564039457584007913129639936) (hc : c < 115792089237316195423570985008687907853269984665640564039457584007913129639936) : a * b + c < 13407807929942597099574024998205846127479365820592393377723561443721764030073546976801874298166903427690031858186486050853753882811946569946433649006084096 := by
  have h := Nat.mul_le_mul (show a ≤ 115792089237316195423570985008687907853269984665640564039457584007913129639936 - 1 by omega) (show b ≤ 115792089237316195423570985008687907853269984665640564039457584007913129639936 - 1 by omega)
  have e : (115792089237316195423570985008687907853269984665640564039457584007913129639936 - 1) * (115792089237316195423570985008687907853269984665640564039457584007913129639936 - 1) + 115792089237316195423570985008687907853269984665640564039457584007913129639936 ≤ 13407807929942597099574024998205846127479365820592393377723561443721764030073546976801874298166903427690031858186486050853753882811946569946433649006084096 := by decide
  omega
set_option maxRecDepth 100000 in
set_option maxHeartbeats 1000000 in
theorem Of_sc (v : Value) (l : List UInt8) (w : World) (hv : Bys w v l) :
    Calls Tryd.prog 42 #[v] w fun e w' => e = .returned (.agg (byteVals (b32 (le l % 13407807929942597099574024998205846127479365820592393377723561443721764030073546976801874298166903427690031858186486050853753882811946569946433649006084096 % 7237005577332262213973186563042994240857116359379907606001950938285454250989))).toArray) ∧ Below w.heap.size w w' := by
  have HBY := Lib.hid hv
  have HRD := Lib.hid (fun w (h : Bys w v l) => readS_any v l w h)
  have HRE := Lib.hid (fun w => restS_any (le l % 13407807929942597099574024998205846127479365820592393377723561443721764030073546976801874298166903427690031858186486050853753882811946569946433649006084096) w (Nat.mod_lt _ (by decide)))
  obtain ⟨n, hn⟩ : ∃ x, le l % 13407807929942597099574024998205846127479365820592393377723561443721764030073546976801874298166903427690031858186486050853753882811946569946433649006084096 = x := ⟨_, rfl⟩
  rw [hn] at HRD HRE
  rw [hn]
  obtain ⟨x, hx⟩ : ∃ x, n % 7237005577332262213973186563042994240857116359379907606001950938285454250989 = x := ⟨_, rfl⟩
  rw [hx] at HRE
  rw [hx]
  have HNM := Lib.hid (fun w => numS_any x w)
  have HSX := Lib.hid (sM (b32 x) (b32_len _))
  have HOX := Lib.hid (oN (zerB 32) (b32 x) (zerB_len 32) (b32_len _))
  clear hn hx hv
  have hz := zM
  have hzS := zS
  go_enter Tryd.func42, Tryd.ntmps42
  go_upto_region 1 with fail
  generalize hW1 : World.alloc _ _ = W1
  obtain ⟨N, hN⟩ : ∃ n, w.heap.size = n := ⟨_, rfl⟩
  have HRZ := Lib.hid (show BT W1 N 67 (zerB 32) by subst hW1; rw [← hN]; exact Go.heap_alloc_new _ _)
  have HB := Lib.hid (show Below N w W1 by subst hW1; rw [← hN]; exact (Below.refl _ w).alloc (Nat.le_refl _) _)
  have HN := Lib.hid hN
  rw [hN]
  clear hW1 hN
  have HBY1 := Lib.hid (HBY.out.below (by rw [HN.out]; exact HB.out))
  go_wp2_with fail
  refine (HRD.out _ HBY1.out).mono ?_
  rintro e wu1 ⟨rfl, hb1⟩
  have HRZx1 := Lib.hid (HRZ.out.ext hb1)
  have HBx1 := Lib.hid (HB.out.trans (hb1.mono (show N ≤ _ by have := HRZ.out.lt; omega)))
  clear hb1 HRZ HB
  have HRZ := HRZx1
  have HB := HBx1
  clear HRZx1 HBx1
  go_wp2_with fail
  refine (HRE.out _).mono ?_
  rintro e wu2 ⟨rfl, hb2⟩
  have HRZx2 := Lib.hid (HRZ.out.ext hb2)
  have HBx2 := Lib.hid (HB.out.trans (hb2.mono (show N ≤ _ by have := HRZ.out.lt; omega)))
  clear hb2 HRZ HB
  have HRZ := HRZx2
  have HB := HBx2
  clear HRZx2 HBx2
  go_wp2_with fail
  refine (HNM.out _).mono ?_
  rintro e wu3 ⟨rfl, hb3⟩
  have HRZx3 := Lib.hid (HRZ.out.ext hb3)
  have HBx3 := Lib.hid (HB.out.trans (hb3.mono (show N ≤ _ by have := HRZ.out.lt; omega)))
  clear hb3 HRZ HB
  have HRZ := HRZx3
  have HB := HBx3
  clear HRZx3 HBx3
  go_wp2_with (refine wpList_store_row rfl 67 _ _ rfl N ((byteVals (b32 x)).toArray) rfl rfl 67 _ HRZ.out HSX.out HOX.out (byteVals_one _) ?_)
  refine bodyPost_ret (results_cell_row (by rfl) _ _ N 67 ((byteVals (b32 x)).toArray) (0, 0) _ (by rfl) (setRow_heap _ _ _ _ _ _ HRZ.out) Tryd.underlying67 rfl HSX.out) rfl ⟨rfl, ?_⟩
  rw [HN.out]
  exact Below.setRow HB.out (by omega) _
theorem eqNum (a b : List UInt8) (ha : a.length = 32) (hb : b.length = 32) (o : Oper) (ax : Act) (x y : Operand) (ho : o.op = .binOp .eql 67 x y 67) (hx : ax.eval x = .agg (byteVals a).toArray) (hy : ax.eval y = .agg (byteVals b).toArray) (c : Bool) (hc : decide (a = b) = c) (w : World) :
    (execOp ax.eval o).run Tryd.prog w = .ok (.value (.bool c)) w := by
  unfold execOp
  simp only [ho, hx, hy]
  have h : (Op.equal 67 (.agg (byteVals a).toArray) (.agg (byteVals b).toArray)).run Tryd.prog w = .ok (decide (a = b)) w := eqB 67 32 Tryd.underlying67 a b ha hb w
  have hg : Tryd.prog.eqGuardType Tryd.prog.depth 67 = false := by kernel_rfl
  simp [go_sem, binOp, hg, h, hc]
theorem good_dec (l : List UInt8) (hl : l.length = 32) : decide (b32 (le l % 13407807929942597099574024998205846127479365820592393377723561443721764030073546976801874298166903427690031858186486050853753882811946569946433649006084096 % 7237005577332262213973186563042994240857116359379907606001950938285454250989) = l) = decide (le l < 7237005577332262213973186563042994240857116359379907606001950938285454250989) := by
  have h4 := le_32 l hl
  have hL : 0 < 7237005577332262213973186563042994240857116359379907606001950938285454250989 := by decide
  rw [Bool.eq_iff_iff, decide_eq_true_eq, decide_eq_true_eq, mod8 _ h4]
  constructor
  · intro h
    have h2 := congrArg le h
    rw [le_b32 _ (by have := Nat.mod_lt (le l) hL; omega)] at h2
    rw [← h2]; exact Nat.mod_lt _ hL
  · intro h
    rw [Nat.mod_eq_of_lt h, b32_le l hl]
set_option maxRecDepth 100000 in
set_option maxHeartbeats 1000000 in
theorem Good_sc (l : List UInt8) (w : World) (hl : l.length = 32) :
    Calls Tryd.prog 33 #[.agg (byteVals l).toArray] w fun e w' => e = .returned (.bool (decide (le l < 7237005577332262213973186563042994240857116359379907606001950938285454250989))) ∧ Below w.heap.size w w' := by
  have HSL := Lib.hid (sM l hl)
  have HL := Lib.hid hl
  have HGD := Lib.hid (good_dec l hl)
  have HOF := Lib.hid (fun w h => Of_sc (.slice (some ⟨w.heap.size, 0, none⟩) 32 32) l w h)
  clear HOF
  obtain ⟨b, hb⟩ : ∃ x, decide (le l < 7237005577332262213973186563042994240857116359379907606001950938285454250989) = x := ⟨_, rfl⟩
  rw [hb] at HGD
  rw [hb]
  clear hb hl
  have hz := zM
  have hzS := zS
  go_enter Tryd.func33, Tryd.ntmps33
  go_upto_region 1 with fail
  generalize hW1 : World.alloc _ _ = W1
  obtain ⟨N, hN⟩ : ∃ n, w.heap.size = n := ⟨_, rfl⟩
  have HR0 := Lib.hid (show BT W1 N 67 l by subst hW1; rw [← hN]; exact Go.heap_alloc_new _ _)
  have HB := Lib.hid (show Below N w W1 by subst hW1; rw [← hN]; exact (Below.refl _ w).alloc (Nat.le_refl _) _)
  have HN := Lib.hid hN
  rw [hN]
  clear hW1 hN
  have HOF := Lib.hid (fun w h => Of_sc (.slice (some ⟨N, 0, none⟩) 32 32) l w h)
  obtain ⟨r, hr⟩ : ∃ r, b32 (le l % 13407807929942597099574024998205846127479365820592393377723561443721764030073546976801874298166903427690031858186486050853753882811946569946433649006084096 % 7237005577332262213973186563042994240857116359379907606001950938285454250989) = r := ⟨_, rfl⟩
  have HRL := Lib.hid (show r.length = 32 by rw [← hr]; exact b32_len _)
  rw [hr] at HOF HGD
  clear hr
  go_wp2_with fail
  refine wp_region_whole [0, 1, 2, 3, 4] [] [] (by kernel_rfl) (by kernel_rfl) (List.forall_mem_nil _) rfl ?_
  simp only [List.foldl]
  refine upW_late (by rfl) (.slice (some ⟨N, 0, none⟩) 32 32) (fun _ => by kernel_rfl) ?_
  simp only [Act.put, List.setIfInBounds_toArray, List.set]
  refine upW_call (by rfl) (by rfl) (.agg (byteVals r).toArray) _ rfl (by simp) (fun p => ?_) ?_
  · go_big_quiet_op
    exact ⟨_, fun q => Calls.ext_of (HOF.out q.x (sl32 l HL.out (HR0.out.ext (p.h.trans (q.h.mono p.h.size))))), rfl⟩
  simp only [Act.put, List.setIfInBounds_toArray, List.set]
  refine upW_val (by rfl) (by rfl) (by rfl) (fun K hK => quiet_load_row _ _ rfl N rfl 67 _ (0, 0) _ HR0.out Tryd.underlying67 rfl HSL.out (hK _ ?_))
  simp only [Act.put, List.setIfInBounds_toArray, List.set]
  refine upW_late (by rfl) (.bool b) (fun w => eqNum r l HRL.out HL.out _ _ _ _ rfl rfl rfl b HGD.out w) ?_
  simp only [Act.put, List.setIfInBounds_toArray, List.set]
  refine upW_val (by rfl) (by rfl) (by rfl) ?_
  intro K hK
  go_big_quiet_op
  refine hK _ ?_
  refine upW_nil ⟨List.forall_mem_nil _, fun M2 wn hM2 hne hby => ?_⟩
  simp only [List.foldr]
  clear hM2 hne M2
  have HR0x990 := Lib.hid (HR0.out.ext hby)
  have HBx990 := Lib.hid (HB.out.trans (hby.mono (show N ≤ _ by have := HR0.out.lt; omega)))
  clear hby HR0 HB
  have HR0 := HR0x990
  have HB := HBx990
  clear HR0x990 HBx990
  go_wp2
  go_ret
  exact ⟨rfl, HN.out.symm ▸ HB.out⟩
set_option maxRecDepth 100000 in
set_option maxHeartbeats 1000000 in
theorem MulAdd_sc (a b d : List UInt8) (w : World) (ha : a.length = 32) (hb : b.length = 32) (hd : d.length = 32) :
    Calls Tryd.prog 51 #[.agg (byteVals a).toArray, .agg (byteVals b).toArray, .agg (byteVals d).toArray] w fun e w' => e = .returned (.agg (byteVals (b32 (oMul (le a) (le b) (le d)))).toArray) ∧ Below w.heap.size w w' := by
  have HL0 := Lib.hid ha
  have HRD0 := Lib.hid (fun v w (h : Bys w v a) => readS_any v a w h)
  rw [mod8 _ (le_32 a ha)] at HRD0
  have HNL0 := Lib.hid (le_32 a ha)
  have HL1 := Lib.hid hb
  have HRD1 := Lib.hid (fun v w (h : Bys w v b) => readS_any v b w h)
  rw [mod8 _ (le_32 b hb)] at HRD1
  have HNL1 := Lib.hid (le_32 b hb)
  have HL2 := Lib.hid hd
  have HRD2 := Lib.hid (fun v w (h : Bys w v d) => readS_any v d w h)
  rw [mod8 _ (le_32 d hd)] at HRD2
  have HNL2 := Lib.hid (le_32 d hd)
  have HPL := Lib.hid (fun w => mulAddS_any (le a) (le b) (le d) w (le_32 a ha) (le_32 b hb) (le_32 d hd))
  have HRE := Lib.hid (fun w => restS_any (le a * le b + le d) w (mul_bound _ _ _ (le_32 a ha) (le_32 b hb) (le_32 d hd)))
  rw [show (le a * le b + le d) % 7237005577332262213973186563042994240857116359379907606001950938285454250989 = oMul (le a) (le b) (le d) from rfl] at HRE
  obtain ⟨s, hs⟩ : ∃ s, le a * le b + le d = s := ⟨_, rfl⟩
  rw [hs] at HPL HRE
  clear hs
  obtain ⟨x, hx⟩ : ∃ x, oMul (le a) (le b) (le d) = x := ⟨_, rfl⟩
  rw [hx] at HRE
  rw [hx]
  have HNM := Lib.hid (fun w => numS_any x w)
  have HSX := Lib.hid (sM (b32 x) (b32_len _))
  have HOX := Lib.hid (oN (zerB 32) (b32 x) (zerB_len 32) (b32_len _))
  clear hx ha hb hd
  have hz := zM
  have hzS := zS
  go_enter Tryd.func51, Tryd.ntmps51
  go_upto_region 1 with fail
  generalize hW1 : World.alloc _ _ = W1
  obtain ⟨N, hN⟩ : ∃ n, w.heap.size = n := ⟨_, rfl⟩
  have HR := Lib.hid (show BT W1 N 67 a ∧ BT W1 (N + 1) 67 b ∧ BT W1 (N + 1 + 1) 67 d ∧ BT W1 (N + 1 + 1 + 1) 67 (zerB 32) ∧ Below N w W1 by
    subst hW1; rw [← hN]
    have h3 := alloc3_at w (.cells (byteVals a).toArray 67) (.cells (byteVals b).toArray 67) (.cells (byteVals d).toArray 67)
    have hsz : (((w.alloc (.cells (byteVals a).toArray 67)).alloc (.cells (byteVals b).toArray 67)).alloc (.cells (byteVals d).toArray 67)).heap.size = w.heap.size + 1 + 1 + 1 := by simp
    refine ⟨(Go.heap_alloc_old _ _ (by rw [hsz]; omega)).trans h3.1, (Go.heap_alloc_old _ _ (by rw [hsz]; omega)).trans h3.2.1, (Go.heap_alloc_old _ _ (by rw [hsz]; omega)).trans h3.2.2, ?_, (Below.alloc3 w _ _ _).alloc (by rw [hsz]; omega) _⟩
    rw [← hsz]; exact Go.heap_alloc_new _ _)
  have HR0 := Lib.hid HR.out.1
  have HR1 := Lib.hid HR.out.2.1
  have HR2 := Lib.hid HR.out.2.2.1
  have HRZ := Lib.hid HR.out.2.2.2.1
  have HB := Lib.hid HR.out.2.2.2.2
  clear HR
  have HN := Lib.hid hN
  rw [hN]
  clear hW1 hN
  refine wp_region_up 9 9 (by kernel_rfl) (by kernel_rfl) (fun _ _ dst _ _ h => by cases dst <;> exact h) ?_
  simp only [List.take_succ_cons, List.take_zero, List.drop_succ_cons, List.drop_zero]
  refine upW_late (by rfl) (.slice (some ⟨N, 0, none⟩) 32 32) (fun _ => by kernel_rfl) ?_
  simp only [Act.put, List.setIfInBounds_toArray, List.set]
  refine upW_call (by rfl) (by rfl) (.agg (nums .u64 (w8 (le a)))) _ rfl (by simp) (fun p => ?_) ?_
  · go_big_quiet_op
    exact ⟨_, fun q => Calls.ext_of (HRD0.out _ q.x (sl32 a HL0.out (HR0.out.ext (p.h.trans (q.h.mono p.h.size))))), rfl⟩
  simp only [Act.put, List.setIfInBounds_toArray, List.set]
  refine upW_late (by rfl) (.slice (some ⟨(N + 1), 0, none⟩) 32 32) (fun _ => by kernel_rfl) ?_
  simp only [Act.put, List.setIfInBounds_toArray, List.set]
  refine upW_call (by rfl) (by rfl) (.agg (nums .u64 (w8 (le b)))) _ rfl (by simp) (fun p => ?_) ?_
  · go_big_quiet_op
    exact ⟨_, fun q => Calls.ext_of (HRD1.out _ q.x (sl32 b HL1.out (HR1.out.ext (p.h.trans (q.h.mono p.h.size))))), rfl⟩
  simp only [Act.put, List.setIfInBounds_toArray, List.set]
  refine upW_late (by rfl) (.slice (some ⟨(N + 1 + 1), 0, none⟩) 32 32) (fun _ => by kernel_rfl) ?_
  simp only [Act.put, List.setIfInBounds_toArray, List.set]
  refine upW_call (by rfl) (by rfl) (.agg (nums .u64 (w8 (le d)))) _ rfl (by simp) (fun p => ?_) ?_
  · go_big_quiet_op
    exact ⟨_, fun q => Calls.ext_of (HRD2.out _ q.x (sl32 d HL2.out (HR2.out.ext (p.h.trans (q.h.mono p.h.size))))), rfl⟩
  simp only [Act.put, List.setIfInBounds_toArray, List.set]
  refine upW_call (by rfl) (by rfl) (.agg (nums .u64 (w8 s))) _ rfl (by simp) (fun p => ?_) ?_
  · go_big_quiet_op
    exact ⟨_, fun q => Calls.ext_of (HPL.out q.x), rfl⟩
  simp only [Act.put, List.setIfInBounds_toArray, List.set]
  refine upW_call (by rfl) (by rfl) (.agg (nums .u64 (w4 x))) _ rfl (by simp) (fun p => ?_) ?_
  · go_big_quiet_op
    exact ⟨_, fun q => Calls.ext_of (HRE.out q.x), rfl⟩
  simp only [Act.put, List.setIfInBounds_toArray, List.set]
  refine upW_call (by rfl) (by rfl) (.agg (byteVals (b32 x)).toArray) _ rfl (by simp) (fun p => ?_) ?_
  · go_big_quiet_op
    exact ⟨_, fun q => Calls.ext_of (HNM.out q.x), rfl⟩
  simp only [Act.put, List.setIfInBounds_toArray, List.set]
  refine upW_nil (fun wy hby => ?_)
  have HR0x906 := Lib.hid (HR0.out.ext hby)
  have HR1x906 := Lib.hid (HR1.out.ext hby)
  have HR2x906 := Lib.hid (HR2.out.ext hby)
  have HRZx906 := Lib.hid (HRZ.out.ext hby)
  have HBx906 := Lib.hid (HB.out.trans (hby.mono (show N ≤ _ by have := HRZ.out.lt; omega)))
  clear hby HR0 HR1 HR2 HRZ HB
  have HR0 := HR0x906
  have HR1 := HR1x906
  have HR2 := HR2x906
  have HRZ := HRZx906
  have HB := HBx906
  clear HR0x906 HR1x906 HR2x906 HRZx906 HBx906
  go_wp2_with (refine wpList_store_row rfl 67 _ _ rfl (N + 1 + 1 + 1) ((byteVals (b32 x)).toArray) rfl rfl 67 _ HRZ.out HSX.out HOX.out (byteVals_one _) ?_)
  refine bodyPost_ret (results_cell_row (by rfl) _ _ (N + 1 + 1 + 1) 67 ((byteVals (b32 x)).toArray) (0, 0) _ (by rfl) (setRow_heap _ _ _ _ _ _ HRZ.out) Tryd.underlying67 rfl HSX.out) rfl ⟨rfl, ?_⟩
  rw [HN.out]
  exact Below.setRow HB.out (by omega) _
end Go.Proofs.YtlpchgoaoglhcaaDoor
namespace Go.Proofs.YtlpchgoaoglhcaaDoor
open Go.RowKit
/-- Bit i of a number. -/
def bitB (n : Nat) (i : Int) : Bool := decide (0 ≤ i ∧ i < 256 ∧ n / 2 ^ i.toNat % 2 = 1)
theorem byte_bit (l : List UInt8) (k : Nat) : (l.getD (k / 8) 0).toNat / 2 ^ (k % 8) % 2 = le l / 2 ^ k % 2 := by
  rw [← le_get]
  obtain ⟨m, hm⟩ : ∃ m, le l / 256 ^ (k / 8) = m := ⟨_, rfl⟩
  rw [hm]
  have e2 : le l / 2 ^ k = m / 2 ^ (k % 8) := by
    rw [← hm, show (256 : Nat) = 2 ^ 8 by decide, ← Nat.pow_mul, Nat.div_div_eq_div_mul, ← Nat.pow_add]
    congr 2
    omega
  have e3 : (256 : Nat) = 2 ^ (k % 8) * 2 ^ (8 - k % 8) := by rw [← Nat.pow_add, show k % 8 + (8 - k % 8) = 8 by omega]
  rw [e2, e3, Nat.mod_mul_right_div_self]
  have e4 : (2 : Nat) ^ (8 - k % 8) = 2 * 2 ^ (7 - k % 8) := by rw [Nat.mul_comm, ← Nat.pow_succ]; congr 1; omega
  rw [e4, Nat.mod_mul_right_mod]
theorem wraps_u8' (n : Int) (h₀ : 0 ≤ n) (h₁ : n < 2 ^ 8) : IntKind.u8.wrap n = n := by rw [IntKind.wrap_u8]; omega
theorem and1B (a : Nat) (ha : a < 256) : bits .and .u8 (a : Int) 1 = ((a % 2 : Nat) : Int) := by
  have := bits_mask .u8 8 (by decide) wraps_u8' 1 (by decide) (a : Int) (by omega) (by omega)
  rw [show (1 : Int) = 2 ^ 1 - 1 by decide, this]
  omega
set_option maxRecDepth 100000 in
set_option maxHeartbeats 1000000 in
theorem Bit_sc (l : List UInt8) (i : Int) (w : World) (hl : l.length = 32) (hi1 : -9223372036854775808 ≤ i) (hi2 : i ≤ 9223372036854775807) :
    Calls Tryd.prog 80 #[.agg (byteVals l).toArray, .int .i64 i] w fun e w' => e = .returned (.bool (bitB (le l) i)) ∧ Below w.heap.size w w' := by
  have HB := Lib.hid (show Below w.heap.size w (w.alloc (.cells (byteVals l).toArray 67)) from (Below.refl _ w).alloc (Nat.le_refl _) _)
  by_cases h0 : i < 0
  · have HV := Lib.hid (show bitB (le l) i = false from decide_eq_false (fun h => by omega))
    rw [HV.out]
    have h0' : ¬ 0 ≤ i := by omega
    clear HV
    go_enter Tryd.func80, Tryd.ntmps80
    go_wp2
    go_ret
    exact ⟨rfl, HB.out⟩
  · by_cases h1 : i < 256
    · obtain ⟨k, rfl⟩ : ∃ k : Nat, i = (k : Int) := ⟨i.toNat, by omega⟩
      have hk : k < 256 := by omega
      have h0' : (0 : Int) ≤ (k : Int) := by omega
      have h1' : ¬ (256 : Int) ≤ (k : Int) := by omega
      have HR := Lib.hid (show BT (w.alloc (.cells (byteVals l).toArray 67)) w.heap.size 67 l from Go.heap_alloc_new _ _)
      have c1 := HR.out.cell (i := k / 8) (by omega)
      have HBB := Lib.hid (byte_bit l k)
      have e1 : (k : Int) / 8 = ((k / 8 : Nat) : Int) := by omega
      have e2 : (k : Int) % 8 = ((k % 8 : Nat) : Int) := by omega
      have hq : ((k / 8 : Nat) : Int) < 32 := by omega
      have hq0 : (0 : Int) ≤ ((k / 8 : Nat) : Int) := by omega
      have hr : ((k % 8 : Nat) : Int) < 8 := by omega
      have hr0 : (0 : Int) ≤ ((k % 8 : Nat) : Int) := by omega
      have h0c : (byteVals l).toArray[k / 8]? = some (.int .u8 ((l.getD (k / 8) 0).toNat : Int)) := byteVals_get l (k / 8) (by omega)
      have hxl := UInt8.toNat_lt (l.getD (k / 8) 0)
      generalize k / 8 = q at *
      generalize k % 8 = r at *
      generalize (l.getD q 0).toNat = x at *
      have hb1 : bits .and .u8 ((x : Int) / 2 ^ r) 1 = ((x / 2 ^ r % 2 : Nat) : Int) := by
        rw [show (x : Int) / 2 ^ r = ((x / 2 ^ r : Nat) : Int) by simp]
        exact and1B (x / 2 ^ r) (Nat.lt_of_le_of_lt (Nat.div_le_self _ _) hxl)
      obtain ⟨m, hm⟩ : ∃ m, x / 2 ^ r % 2 = m := ⟨_, rfl⟩
      rw [hm] at hb1 HBB
      have HV := Lib.hid (show bitB (le l) (k : Int) = ((m : Int) == 1) by
        unfold bitB
        rw [Int.toNat_natCast, ← HBB.out, Bool.eq_iff_iff]
        simp
        omega)
      obtain ⟨y, hy⟩ : ∃ y, bitB (le l) (k : Int) = y := ⟨_, rfl⟩
      rw [hy] at HV ⊢
      clear hm hxl hy HR hl hi1 hi2 h0
      go_enter Tryd.func80, Tryd.ntmps80
      go_wp2
      go_ret
      exact ⟨congrArg (fun b => Ending.returned (Value.bool b)) HV.out.symm, HB.out⟩
    · have HV := Lib.hid (show bitB (le l) i = false from decide_eq_false (fun h => by omega))
      rw [HV.out]
      have h0' : 0 ≤ i := by omega
      have h1' : 256 ≤ i := by omega
      clear HV
      go_enter Tryd.func80, Tryd.ntmps80
      go_wp2
      go_ret
      exact ⟨rfl, HB.out⟩
end Go.Proofs.YtlpchgoaoglhcaaDoor
